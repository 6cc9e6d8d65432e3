/- Ref01B, Ref01C, Ref05A, Ref05B, Ref09B, in one text. -/
import Derived.Test.YtgpmoimmpbkgfaaGreatDoorMrg2
import Derived.Test.YtgpmoimmpbkgfaaGreatDoorMrg1
import Derived.Test.YtgpmoimmpbkgfaaGreatDoorMrg3
import Derived.Test.YtgpmoimmpbkgfaaGreatDoorMrg4
import Derived.Test.YtgpmoimmpbkgfaaGreatDoorMrg16

section
/- Layer 1: the reference's Pack and Unpack. -/
set_option maxRecDepth 20000
namespace Go.Proofs.YtgpmoimmpbkgfaaGreatDoor
open Go Go.RowKit

def byteUpTo (l : List Bool) (j k : Nat) : Nat := (List.range k).foldl (fun c k => c * 2 + (l.getD (8 * j + k) false).toNat) 0
theorem byteUpTo_succ (l : List Bool) (j k : Nat) : byteUpTo l j (k + 1) = byteUpTo l j k * 2 + (l.getD (8 * j + k) false).toNat := by simp [byteUpTo, List.range_succ]
theorem byteUpTo_lt (l : List Bool) (j k : Nat) (hk : k ≤ 8) : byteUpTo l j k < 256 := by
  have : byteUpTo l j k < 2 ^ k := by
    clear hk
    induction k with
    | zero => simp [byteUpTo]
    | succ k ih => rw [byteUpTo_succ, Nat.pow_succ]; have : (l.getD (8 * j + k) false).toNat ≤ 1 := by cases l.getD (8 * j + k) false <;> simp
                   omega
  have h2 : 2 ^ k ≤ 2 ^ 8 := Nat.pow_le_pow_right (by omega) hk
  omega

theorem pack_take_succ (l : List Bool) (j : Nat) (h : j < (l.length + 7) / 8) : (pack l).take (j + 1) = (pack l).take j ++ [byteOf l j] := by
  rw [List.take_add_one, pack_get l j h]; rfl

set_option maxHeartbeats 1000000 in
theorem ref_pack (v : Value) (bs : List Bool) (w : World) (h : Rd w 1 v bs.length (bls bs)) (hb : bs.length ≤ 70368744177664) :
    Calls Tryz.prog 33 #[v] w fun e w' => ∃ r, e = .returned r ∧ Made w w' 5 1 r (pack bs).length (u8s (pack bs)) := by
  obtain ⟨i0, hi, hz0, hz1, hz2⟩ := info_parts Tryz.infoU8
  have hcell : ∀ j (hj : j < bs.length), ∃ b off c, v = .slice (some ⟨b, off, none⟩) bs.length c ∧ w.cell? ⟨b, off + j, none⟩ = some (.bool bs[j]) ∧ b < w.heap.size := fun j hj => by
    obtain ⟨b, off, c, hv, _, _, hc⟩ := h.at (fun e => by have := congrArg List.length e; rw [bls_length] at this; simp at this; subst this; simp at hj)
    have hc' := hc j _ (bls_get bs j hj)
    exact ⟨b, off, c, hv, hc', World.block_lt_of_cell? w _ hc'⟩
  have HC := Lib.hid hcell
  obtain ⟨p, c, hv⟩ := h.shape
  subst hv
  clear h hcell
  go_enter Tryz.func33, Tryz.ntmps33
  go_wp2
  go_loopw [3, 4] (fun out i wr => ∃ j : Nat, j ≤ (bs.length + 7) / 8 ∧ i = .int .i64 ((8 * j : Nat) : Int) ∧ wr.ownsRow w.heap.size 5 1 out j (u8s ((pack bs).take j)) ∧ Below w.heap.size w wr) (fun _ i _ => bs.length + 8 - (intOf i).toNat)
  case atStart => exact ⟨0, Nat.zero_le _, rfl, by simpa [u8s] using World.ownsRow_nil _ _ _ _, Below.refl _ _⟩
  case round =>
    obtain ⟨j, hj, rfl, hown, hB⟩ := hrel
    by_cases hlt : 8 * j < bs.length
    · have hlt' : ((8 * j : Nat) : Int) < (bs.length : Int) := by omega
      have HO := Lib.hid hown; have HB := Lib.hid hB; clear hown hB
      go_wp2
      go_loop [5, 6] (fun c k => ∃ i : Nat, i ≤ 8 ∧ k = .int .i64 i ∧ c = .int .i64 (byteUpTo bs j i)) (fun _ k => 8 - (intOf k).toNat)
      case atStart => exact ⟨0, by omega, rfl, rfl⟩
      case round =>
        obtain ⟨i, hi8, rfl, rfl⟩ := hrel
        by_cases hi8' : i < 8
        · have hc := byteUpTo_lt bs j i hi8
          have HS := Lib.hid (byteUpTo_succ bs j i)
          by_cases hin : 8 * j + i < bs.length
          · have hin' : ((8 * j : Nat) : Int) + (i : Int) < (bs.length : Int) := by omega
            obtain ⟨b, off, c', hv, hcell, hbl⟩ := HC.out _ hin
            simp only [Value.slice.injEq] at hv
            obtain ⟨rfl, _, rfl⟩ := hv
            have hcw : wr.cell? ⟨b, off + (8 * j + i), none⟩ = some (.bool bs[8 * j + i]) := (HB.out.cell (p := ⟨b, off + (8 * j + i), none⟩) hbl).trans hcell
            have hgd : bs.getD (8 * j + i) false = bs[8 * j + i] := by simp [List.getD, hin]
            rw [hgd] at HS
            clear hcell hgd hbl
            generalize bs[8 * j + i] = x at *
            cases x with
            | true =>
              go_wp2
              go_round
              case rel => exact ⟨i + 1, by omega, by go_num, by rw [HS.out]; go_num⟩
              case measure => simp [intOf]; omega
            | false =>
              go_wp2
              go_round
              case rel => exact ⟨i + 1, by omega, by go_num, by rw [HS.out]; go_num⟩
              case measure => simp [intOf]; omega
          · have hin' : ¬ ((8 * j : Nat) : Int) + (i : Int) < (bs.length : Int) := by omega
            have hgd : bs.getD (8 * j + i) false = false := getD_past bs _ (by omega)
            rw [hgd] at HS
            clear hgd
            go_wp2
            go_round
            case rel => exact ⟨i + 1, by omega, by go_num, by rw [HS.out]; go_num⟩
            case measure => simp [intOf]; omega
        · obtain rfl : i = 8 := by omega
          have hc := byteOf_lt bs j
          have hb8 : byteUpTo bs j 8 = byteOf bs j := rfl
          rw [hb8]
          clear hb8
          have HT := Lib.hid (pack_take_succ bs j (by omega))
          have HL : Hid (((pack bs).take j).length = j) := by show _ = _; rw [List.length_take, pack_length]; omega
          have hLb : (j + 1) * 1 ≤ 140737488355328 ∧ j + 1 ≤ maxLen := by unfold maxLen; omega
          have HLb := Lib.hid hLb; clear hLb
          go_wp2_with (at_builtin; refine wpList_push Tryz.elemU8 wr #[.int .u8 (byteOf bs j)] _ _ _ (owns_rebase HO.out (fun _ _ => Nat.zero_le _)) rfl (one_cell _ rfl) HLb.out rfl _ _ rfl rfl rfl ?_)
          intro v' w1 hown' hmods hfr
          have HR : Hid (w1.ownsRow w.heap.size 5 1 v' (j + 1) (u8s ((pack bs).take (j + 1))) ∧ Below w.heap.size w w1) := by
            refine ⟨?_, HB.out.trans (hmods.below HB.out.size (fun k hk e => by have := (HO.out.lt k e).1; omega))⟩
            rw [HT.out, u8s_append]
            exact owns_rebase hown' (fun k hk => by
              rcases hfr k hk with e | e
              · exact (HO.out.lt k e).1
              · have := HB.out.size; omega)
          clear hown' hmods hfr HO HB HT HL HLb
          go_wp2
          go_roundw
          case rel => exact ⟨j + 1, by omega, by go_num, HR.out.1, HR.out.2⟩
          case measure => simp [intOf]; omega
    · obtain rfl : j = (bs.length + 7) / 8 := by omega
      go_wp2
      go_ret
      refine ⟨_, rfl, ?_, hB⟩
      rw [List.take_of_length_le (by rw [pack_length]; exact Nat.le_refl _)] at hown
      rw [pack_length]; exact hown

theorem rd_u8_cell {w : World} {v : Value} {l : List Nat} (h : Rd w 1 v l.length (u8s l)) (j : Nat) (hj : j < l.length) : ∃ b off c, v = .slice (some ⟨b, off, none⟩) l.length c ∧ w.cell? ⟨b, off + j, none⟩ = some (.int .u8 (l[j] : Nat)) ∧ b < w.heap.size := by
  obtain ⟨b, off, c, hv, _, _, hc⟩ := h.at (fun e => by have := congrArg List.length e; rw [u8s_length] at this; simp at this; subst this; simp at hj)
  have hc' := hc j _ (u8s_get l j hj)
  exact ⟨b, off, c, hv, hc', World.block_lt_of_cell? w _ hc'⟩
theorem unpack_take_succ (l : List Nat) (j : Nat) (hj : j < l.length) : unpack (l.take (j + 1)) = unpack (l.take j) ++ fieldBits l[j] 8 := by
  rw [List.take_add_one, List.getElem?_eq_getElem hj, unpack_append]; simp [unpack]

set_option maxHeartbeats 400000 in
theorem ref_unpack (v : Value) (l : List Nat) (w : World) (h : Rd w 1 v l.length (u8s l)) (h8 : ∀ x ∈ l, x < 256) (hb : l.length ≤ 8796093022200) :
    Calls Tryz.prog 39 #[v] w fun e w' => ∃ r, e = .returned r ∧ Made w w' 4 1 r (unpack l).length (bls (unpack l)) := by
  have HC := Lib.hid (rd_u8_cell h)
  obtain ⟨p, c, hv⟩ := h.shape
  subst hv
  clear h
  go_enter Tryz.func39, Tryz.ntmps39
  go_wp2
  go_loopw [3, 4] (fun out i wr => ∃ j : Nat, j ≤ l.length ∧ i = .int .i64 j ∧ BitsIn wr out (unpack (l.take j)) ∧ (∀ k, out.ownBlock = some k → w.heap.size ≤ k) ∧ Below w.heap.size w wr) (fun _ i _ => l.length - (intOf i).toNat)
  case atStart => exact ⟨0, Nat.zero_le _, rfl, World.ownsRow_nil _ _ _ _, by simp [Value.ownBlock], Below.refl _ _⟩
  case round =>
    obtain ⟨j, hj, rfl, hown, hfr, hB⟩ := hrel
    by_cases hlt : j < l.length
    · have HO := Lib.hid hown; have HB := Lib.hid hB; have HF := Lib.hid hfr
      obtain ⟨b, off, c', hv, hcell, hbl⟩ := HC.out _ hlt
      simp only [Value.slice.injEq] at hv
      obtain ⟨rfl, _, rfl⟩ := hv
      have hcw : wr.cell? ⟨b, off + j, none⟩ = some (.int .u8 (l[j] : Nat)) := (hB.cell (p := ⟨b, off + j, none⟩) hbl).trans hcell
      have hx := h8 l[j] (List.getElem_mem _)
      have HS := Lib.hid (unpack_take_succ l j hlt)
      have hUl : (unpack (l.take j)).length + 64 ≤ 70368744177664 := by rw [unpack_length, List.length_take]; omega
      clear hown hB hfr hcell hbl
      generalize l[j] = x at *
      go_wp2_with (go_at_call 61; refine (ref_write _ _ x 8 _ HO.out (by omega) (by omega) hUl).mono ?_; rintro e w' ⟨v2, rfl, hW⟩)
      go_roundw
      case rel =>
        refine ⟨j + 1, by omega, by go_num, by rw [HS.out]; exact hW.own, fun k hk => ?_, HB.out.trans (hW.mods.below HB.out.size (fun k hk e => by have := HF.out k e; omega))⟩
        rcases hW.fresh k hk with e | e
        · exact HF.out k e
        · have := HB.out.size; omega
      case measure => simp [intOf]; omega
    · obtain rfl : j = l.length := by omega
      go_wp2
      go_ret
      rw [List.take_length] at hown
      exact ⟨_, rfl, owns_rebase hown hfr, hB⟩
end Go.Proofs.YtgpmoimmpbkgfaaGreatDoor

end

section
/- Layer 1: the reference's Reader. -/
set_option linter.unusedVariables false
set_option maxRecDepth 20000
namespace Go.Proofs.YtgpmoimmpbkgfaaGreatDoor
open Go Go.RowKit

/-- The reference's reader at block q: the bits that remain. -/
structure RefIn (w : World) (q : Nat) (v : Value) (bs : List Bool) : Prop where
  blk : Blk w q [v]
  rd : Rd w 1 v bs.length (bls bs)
  ne : bs ≠ [] → v.ownBlock ≠ some q
theorem RefIn.mods {S : Nat → Prop} {w w' : World} {q : Nat} {v : Value} {bs : List Bool} (h : RefIn w q v bs) (hm : Mods S w w') (hq : ¬ S q) (hv : bs ≠ [] → ∀ k, v.ownBlock = some k → ¬ S k) : RefIn w' q v bs := by
  refine ⟨hm.blk h.blk hq, ?_, h.ne⟩
  by_cases he : bs = []
  · subst he
    obtain ⟨p, c, hv, h1, h2, h3, h4, h5⟩ := h.rd
    exact ⟨p, c, hv, h1, h2, h3, h4, fun ad _ j u hu => by simp [bls] at hu⟩
  · exact h.rd.mods hm (hv he)
theorem RefIn.drewN {w : World} {q : Nat} {v : Value} {bs : List Bool} (h : RefIn w q v bs) (d : Nat) : RefIn (w.drewN d) q v bs := h.mods (Mods.drewN (fun _ => False) w d) (fun h => h) (fun _ _ _ h => h)
theorem RefIn.below {w w' : World} {q : Nat} {v : Value} {bs : List Bool} (h : RefIn w q v bs) (hb : Below w.heap.size w w') : RefIn w' q v bs := h.mods (Mods.of_below hb (fun _ => False)) (fun h => h) (fun _ _ _ h => h)

theorem rd_bool_cell {w : World} {v : Value} {l : List Bool} (h : Rd w 1 v l.length (bls l)) (j : Nat) (hj : j < l.length) : ∃ b off c, v = .slice (some ⟨b, off, none⟩) l.length c ∧ w.cell? ⟨b, off + j, none⟩ = some (.bool l[j]) ∧ b < w.heap.size := by
  obtain ⟨b, off, c, hv, _, _, hc⟩ := h.at (fun e => by have := congrArg List.length e; rw [bls_length] at this; simp at this; subst this; simp at hj)
  have hc' := hc j _ (bls_get l j hj)
  exact ⟨b, off, c, hv, hc', World.block_lt_of_cell? w _ hc'⟩

theorem ref_rbits_bad (q : Nat) (n : Int) (w : World) (h : n < 0 ∨ 64 < n) : Calls Tryz.prog 68 #[.pointer (some ⟨q, 0, none⟩), .int .i64 n] w fun e w' => e = .returned (.tuple #[.int .u64 0, .int .i64 2]) ∧ w = w' := by
  rcases h with h | h
  · go_enter Tryz.func68, Tryz.ntmps68
    go_wp2
    go_ret2
    exact ⟨rfl, rfl⟩
  · have h' : ¬ n < 0 := by omega
    go_enter Tryz.func68, Tryz.ntmps68
    go_wp2
    go_ret2
    exact ⟨rfl, rfl⟩

theorem ref_rbits_eof (q : Nat) (v : Value) (n : Nat) (bs : List Bool) (w : World) (h : RefIn w q v bs) (hn : n ≤ 64) (hlt : bs.length < n) :
    Calls Tryz.prog 68 #[.pointer (some ⟨q, 0, none⟩), .int .i64 n] w fun e w' => e = .returned (.tuple #[.int .u64 0, .int .i64 3]) ∧ w = w' := by
  have h0 : w.cell? ⟨q, 0, none⟩ = some v := by rw [h.blk.cell]; rfl
  obtain ⟨p, c, hv⟩ := h.rd.shape
  subst hv
  clear h
  have hl : (bs.length : Int) < (n : Int) := by omega
  go_enter Tryz.func68, Tryz.ntmps68
  go_wp2
  go_ret2
  exact ⟨rfl, rfl⟩

structure RefBitsPost (q : Nat) (v : Value) (out : List Bool) (w : World) (v' : Value) (w' : World) : Prop where
  rd : RefIn w' q v' out
  mods : Mods (fun k => k = q) w w'
  own : out ≠ [] → v'.ownBlock = v.ownBlock

theorem numOf_take_succ (bs : List Bool) (k : Nat) (hk : k < bs.length) : numOf (bs.take (k + 1)) = numOf (bs.take k) * 2 + bs[k].toNat := by
  rw [List.take_add_one, List.getElem?_eq_getElem hk]; exact numOf_push _ _
theorem numOf_take_lt (bs : List Bool) (k n : Nat) (hk : k < n) (hn : n ≤ 64) : numOf (bs.take k) < 9223372036854775808 := by
  have := numOf_lt (bs.take k)
  have h2 : 2 ^ (bs.take k).length ≤ 2 ^ 63 := Nat.pow_le_pow_right (by omega) (by rw [List.length_take]; omega)
  omega

theorem ref_moved {q : Nat} {p : Option Addr} {c n : Nat} {bs : List Bool} {w : World} (h : RefIn w q (.slice p bs.length c) bs) (hn : n ≤ bs.length) (v' : Value)
    (hv : (n < bs.length → ∃ b off, p = some ⟨b, off, none⟩ ∧ v' = .slice (some ⟨b, off + n, none⟩) (bs.length - n) (c - n)) ∧ (n = bs.length → ∃ p' c', v' = .slice p' 0 c' ∧ c' ≤ maxLen ∧ (p' = none → c' = 0))) :
    RefBitsPost q (.slice p bs.length c) (bs.drop n) w v' (w.setCell ⟨q, 0, none⟩ v') := by
  have hm : Mods (fun k => k = q) w (w.setCell ⟨q, 0, none⟩ v') := Mods.set _ _ _ _ (fun _ => rfl)
  have hb : Blk (w.setCell ⟨q, 0, none⟩ v') q [v'] := by simpa using h.blk.set 0 v'
  by_cases hlt : n < bs.length
  · obtain ⟨b, off, rfl, rfl⟩ := hv.1 hlt
    have hne : bs ≠ [] := fun e => by rw [e] at hlt; simp at hlt
    have hbq : b ≠ q := fun e => h.ne hne (by simp [Value.ownBlock, e])
    obtain ⟨b', off', c', e, h1, h2, h3⟩ := h.rd.at (fun e => by have := congrArg List.length e; rw [bls_length] at this; simp at this; exact hne this)
    simp only [Value.slice.injEq, Option.some.injEq, Addr.mk.injEq, and_true, true_and] at e
    obtain ⟨⟨rfl, rfl⟩, rfl⟩ := e
    refine ⟨⟨hb, ⟨some ⟨b, off + n, none⟩, c - n, by rw [List.length_drop], by simp [bls], by rw [List.length_drop]; omega, by omega, (fun e => by cases e), ?_⟩, fun _ => by simp [Value.ownBlock]; exact hbq⟩, hm, fun _ => rfl⟩
    intro ad e j u hu
    cases e
    have hu' : (bls bs)[n + j]? = some u := by
      simp only [bls, List.map_drop, List.getElem?_drop] at hu ⊢
      exact hu
    have hc := h3 (n + j) u hu'
    have e1 : (⟨b, off + n, none⟩ : Addr).add j = ⟨b, off + (n + j), none⟩ := by unfold Addr.add; split <;> simp_all [Nat.add_assoc]
    rw [e1]
    exact hm.cell hc (fun e => hbq e)
  · obtain ⟨p', c', rfl, hc', hp'⟩ := hv.2 (by omega)
    have e : bs.drop n = [] := List.drop_eq_nil_of_le (by omega)
    rw [e]
    exact ⟨⟨hb, ⟨p', c', rfl, by simp [bls], by simp, hc', fun e => ⟨rfl, hp' e⟩, fun ad _ j u hu => by simp [bls] at hu⟩, fun h => absurd rfl h⟩, hm, fun h => absurd rfl h⟩

def RefBitsQ (q : Nat) (v : Value) (n : Nat) (bs : List Bool) (w : World) (e : Ending) (w' : World) : Prop :=
  e = .returned (.tuple #[.int .u64 (numOf (bs.take n)), .int .i64 0]) ∧ ∃ v', RefBitsPost q v (bs.drop n) w v' w'

set_option maxHeartbeats 1000000 in
theorem ref_rbits (q : Nat) (v : Value) (n : Nat) (bs : List Bool) (w : World) (h : RefIn w q v bs) (hn : n ≤ 64) (hle : n ≤ bs.length) (hb : bs.length ≤ 70368744177664) :
    Calls Tryz.prog 68 #[.pointer (some ⟨q, 0, none⟩), .int .i64 n] w (RefBitsQ q v n bs w) := by
  have h0 : w.cell? ⟨q, 0, none⟩ = some v := by rw [h.blk.cell]; rfl
  have f0 : w.frozen? ⟨q, 0, none⟩ = false := h.blk.free 0
  obtain ⟨p, c, hv⟩ := h.rd.shape
  subst hv
  have hcap : bs.length ≤ c ∧ c ≤ maxLen ∧ (p = none → c = 0) := by
    obtain ⟨_, _, e, _, h1, h2, h3, _⟩ := h.rd
    simp only [Value.slice.injEq] at e
    obtain ⟨rfl, _, rfl⟩ := e
    exact ⟨h1, h2, fun e => (h3 e).2⟩
  have HC := Lib.hid (rd_bool_cell h.rd)
  have H := Lib.hid h
  have HCap := Lib.hid hcap
  have hc1 := hcap.1
  have hc2 : c ≤ 9223372036854775807 := by have := hcap.2.1; unfold maxLen at this; omega
  clear h hcap
  have hl : ¬ (bs.length : Int) < (n : Int) := by omega
  go_enter Tryz.func68, Tryz.ntmps68
  go_wp2
  go_loop [6, 7] (fun x i => ∃ k : Nat, k ≤ n ∧ i = .int .i64 k ∧ x = .int .u64 (numOf (bs.take k))) (fun _ i => n - (intOf i).toNat)
  case atStart => exact ⟨0, Nat.zero_le _, rfl, by simp [numOf]⟩
  case round =>
    obtain ⟨k, hk, rfl, rfl⟩ := hrel
    by_cases hlt : k < n
    · obtain ⟨b, off, c', hv, hcell, hbl⟩ := HC.out k (by omega)
      simp only [Value.slice.injEq] at hv
      obtain ⟨rfl, _, rfl⟩ := hv
      have hX := numOf_take_lt bs k n hlt hn
      have HS := Lib.hid (numOf_take_succ bs k (by omega))
      clear hbl
      generalize numOf (bs.take k) = X at *
      have hkl : k < bs.length := by omega
      generalize bs[k] = x at *
      cases x with
      | true =>
        go_wp2
        go_round
        case rel => exact ⟨k + 1, by omega, by go_num, by rw [HS.out]; go_num⟩
        case measure => simp [intOf]; omega
      | false =>
        go_wp2
        go_round
        case rel => exact ⟨k + 1, by omega, by go_num, by rw [HS.out]; go_num⟩
        case measure => simp [intOf]; omega
    · obtain rfl : k = n := by omega
      by_cases hkl : k < bs.length
      · obtain ⟨b, off, c', hv, hcell, hbl⟩ := HC.out k hkl
        simp only [Value.slice.injEq] at hv
        obtain ⟨rfl, _, rfl⟩ := hv
        have hck : ¬ c = k := by omega
        clear hcell hbl
        go_wp2
        go_ret2
        exact ⟨rfl, _, ref_moved H.out hle _ ⟨fun _ => ⟨b, off, rfl, rfl⟩, fun e => by omega⟩⟩
      · obtain rfl : k = bs.length := by omega
        obtain ⟨X, hX⟩ : ∃ X, numOf (bs.take bs.length) = X := ⟨_, rfl⟩
        rw [hX]
        have HX := Lib.hid hX; clear hX
        have hnlt : ¬ bs.length < bs.length := by omega
        cases p with
        | none =>
          obtain rfl : c = 0 := HCap.out.2.2 rfl
          have hb0 : bs = [] := List.eq_nil_of_length_eq_zero (by omega)
          subst hb0
          go_wp2
          go_ret2
          exact ⟨congrArg (fun z : Nat => Ending.returned (.tuple #[.int .u64 (z : Int), .int .i64 0])) HX.out.symm, _, ref_moved H.out hle _ ⟨fun e => by simp at e, fun _ => ⟨none, 0, rfl, by simp [maxLen], fun _ => rfl⟩⟩⟩
        | some ad =>
          have hm1 := HCap.out.2.1
          by_cases hck : c = bs.length
          · subst hck
            go_wp2
            go_ret2
            exact ⟨congrArg (fun z : Nat => Ending.returned (.tuple #[.int .u64 (z : Int), .int .i64 0])) HX.out.symm, .slice (some ad) 0 0, ref_moved H.out hle _ ⟨fun e => by omega, fun _ => ⟨some ad, 0, rfl, Nat.zero_le _, fun e => by cases e⟩⟩⟩
          · go_wp2
            go_ret2
            exact ⟨congrArg (fun z : Nat => Ending.returned (.tuple #[.int .u64 (z : Int), .int .i64 0])) HX.out.symm, _, ref_moved H.out hle _ ⟨fun e => by omega, fun _ => ⟨_, c - bs.length, rfl, by omega, fun e => by cases e⟩⟩⟩
end Go.Proofs.YtgpmoimmpbkgfaaGreatDoor

end

section
/- Layer 5: the reference's form and Signed. -/
set_option linter.unusedVariables false
set_option maxRecDepth 20000
namespace Go.Proofs.YtgpmoimmpbkgfaaGreatDoor
open Go Go.RowKit

set_option maxHeartbeats 1000000 in
theorem ref_form (x : Int) (w : World) : Calls Tryz.prog 62 #[.int .i64 x] w fun e w' => e = .returned (.int .i64 (formT x : Int)) ∧ w' = w := by
  by_cases h0 : x = 0
  · subst h0
    go_enter Tryz.func62, Tryz.ntmps62
    go_wp2
    go_ret
    exact ⟨rfl, rfl⟩
  · have hb : (x == 0) = false := by rw [beq_eq_false_iff_ne]; exact h0
    by_cases hp : 0 ≤ x
    · have a1 : (-64 : Int) ≤ x := by omega
      have a2 : (-2048 : Int) ≤ x := by omega
      have a3 : (-2147483648 : Int) ≤ x := by omega
      by_cases b1 : x ≤ 63
      · have HF : Hid (formT x = 1) := by show _ = _; unfold formT; (repeat (first | rw [if_pos (by omega)] | rw [if_neg (by omega)]))
        go_enter Tryz.func62, Tryz.ntmps62
        go_wp2
        go_ret
        exact ⟨by rw [HF.out]; rfl, rfl⟩
      · by_cases b2 : x ≤ 2047
        · have HF : Hid (formT x = 2) := by show _ = _; unfold formT; (repeat (first | rw [if_pos (by omega)] | rw [if_neg (by omega)]))
          go_enter Tryz.func62, Tryz.ntmps62
          go_wp2
          go_ret
          exact ⟨by rw [HF.out]; rfl, rfl⟩
        · by_cases b3 : x ≤ 2147483647
          · have HF : Hid (formT x = 3) := by show _ = _; unfold formT; (repeat (first | rw [if_pos (by omega)] | rw [if_neg (by omega)]))
            go_enter Tryz.func62, Tryz.ntmps62
            go_wp2
            go_ret
            exact ⟨by rw [HF.out]; rfl, rfl⟩
          · have HF : Hid (formT x = 4) := by show _ = _; unfold formT; (repeat (first | rw [if_pos (by omega)] | rw [if_neg (by omega)]))
            go_enter Tryz.func62, Tryz.ntmps62
            go_wp2
            go_ret
            exact ⟨by rw [HF.out]; rfl, rfl⟩
    · have b1 : x ≤ 63 := by omega
      have b2 : x ≤ 2047 := by omega
      have b3 : x ≤ 2147483647 := by omega
      by_cases a1 : (-64 : Int) ≤ x
      · have HF : Hid (formT x = 1) := by show _ = _; unfold formT; (repeat (first | rw [if_pos (by omega)] | rw [if_neg (by omega)]))
        go_enter Tryz.func62, Tryz.ntmps62
        go_wp2
        go_ret
        exact ⟨by rw [HF.out]; rfl, rfl⟩
      · by_cases a2 : (-2048 : Int) ≤ x
        · have HF : Hid (formT x = 2) := by show _ = _; unfold formT; (repeat (first | rw [if_pos (by omega)] | rw [if_neg (by omega)]))
          go_enter Tryz.func62, Tryz.ntmps62
          go_wp2
          go_ret
          exact ⟨by rw [HF.out]; rfl, rfl⟩
        · by_cases a3 : (-2147483648 : Int) ≤ x
          · have HF : Hid (formT x = 3) := by show _ = _; unfold formT; (repeat (first | rw [if_pos (by omega)] | rw [if_neg (by omega)]))
            go_enter Tryz.func62, Tryz.ntmps62
            go_wp2
            go_ret
            exact ⟨by rw [HF.out]; rfl, rfl⟩
          · have HF : Hid (formT x = 4) := by show _ = _; unfold formT; (repeat (first | rw [if_pos (by omega)] | rw [if_neg (by omega)]))
            go_enter Tryz.func62, Tryz.ntmps62
            go_wp2
            go_ret
            exact ⟨by rw [HF.out]; rfl, rfl⟩

set_option maxHeartbeats 400000 in
theorem ref_signed (u n : Nat) (hn : 1 ≤ n ∧ n ≤ 64) (hu : u < 2 ^ n) (w : World) : Calls Tryz.prog 69 #[.int .u64 (u : Int), .int .i64 (n : Int)] w fun e w' => e = .returned (.int .i64 (signT u n)) ∧ w' = w := by
  have HN := Lib.hid hn; have HU := Lib.hid hu
  clear hn hu
  go_enter Tryz.func69, Tryz.ntmps69
  go_wp2
  go_loop [5, 6] (fun h i => ∃ k : Nat, 1 ≤ k ∧ k ≤ n ∧ i = .int .i64 (k : Int) ∧ h = .int .u64 ((2 ^ (k - 1) : Nat) : Int)) (fun _ i => n - (intOf i).toNat)
  case atStart => exact ⟨1, by omega, HN.out.1, rfl, rfl⟩
  case round =>
    obtain ⟨k, h1, h2, rfl, rfl⟩ := hrel
    by_cases hlt : k < n
    · have hU : 2 ^ (k + 1 - 1) = 2 ^ (k - 1) * 2 := by rw [show k + 1 - 1 = (k - 1) + 1 from by omega, Nat.pow_succ]
      have hU2 : 2 ^ (k - 1) ≤ 2 ^ 62 := Nat.pow_le_pow_right (by omega) (by have := HN.out; omega)
      have HU2 := Lib.hid hU; clear hU
      generalize 2 ^ (k - 1) = U at *
      have hU3 : (U : Int) ≤ 4611686018427387904 := by omega
      clear hU2
      have hk : (k : Int) ≤ 64 := by have := HN.out; omega
      go_wp2
      go_round
      case rel => exact ⟨k + 1, by omega, by omega, by go_num, by rw [HU2.out]; go_num⟩
      case measure => simp [intOf]; omega
    · obtain rfl : k = n := by omega
      have hpow : 2 ^ k = 2 ^ (k - 1) * 2 := by have := HN.out; rw [← Nat.pow_succ]; congr 1; omega
      have hp2 : 2 ^ (k - 1) ≤ 2 ^ 63 := Nat.pow_le_pow_right (by omega) (by have := HN.out; omega)
      have hp3 : 0 < 2 ^ (k - 1) := Nat.two_pow_pos _
      have hc : ((2 : Int) ^ k) = ((2 ^ k : Nat) : Int) := by simp
      have HS : Hid (signT u k = if 2 ^ (k - 1) ≤ u then (u : Int) - ((2 ^ k : Nat) : Int) else (u : Int)) := by show _ = _; rw [signT, hc]
      clear hc
      have hu := HU.out
      rw [hpow] at HS hu
      clear hpow HU
      generalize 2 ^ (k - 1) = H at *
      have hH : H ≤ 9223372036854775808 := by simpa using hp2
      clear hp2
      by_cases hge : H ≤ u
      · have hge' : (H : Int) ≤ (u : Int) := by omega
        have e1 : IntKind.u64.wrap ((u : Int) - (H : Int)) = (u : Int) - (H : Int) := by rw [IntKind.wrap_u64]; omega
        have HV : Hid (wrap64 (IntKind.u64.wrap ((u : Int) - (H : Int) - (H : Int))) = signT u k) := by
          show _ = _
          rw [HS.out, if_pos hge, w64_eq, IntKind.wrap_u64]; omega
        clear hu hH hp3 h1 h2 hlt
        go_wp2
        go_ret
        exact ⟨by rw [← HV.out]; rfl, rfl⟩
      · have hge' : ¬ (H : Int) ≤ (u : Int) := by omega
        have HV : Hid (signT u k = (u : Int)) := by show _ = _; rw [HS.out, if_neg hge]
        have e1 : IntKind.i64.wrap (u : Int) = (u : Int) := IntWalk.i64_in _ (by omega)
        go_wp2
        go_ret
        exact ⟨by rw [HV.out]; rfl, rfl⟩
end Go.Proofs.YtgpmoimmpbkgfaaGreatDoor

end

section
/- Layer 5: the reference's Put. -/
set_option linter.unusedVariables false
set_option maxRecDepth 20000
namespace Go.Proofs.YtgpmoimmpbkgfaaGreatDoor
open Go Go.RowKit

theorem Tryz.arrU5 : Arr Tryz.prog 107 31 5 (.int .u64 0) := Arr.mk' Tryz.underlying107 (by kernel_rfl) (by kernel_rfl) Tryz.underlying31 rfl
theorem Tryz.arrI5 : Arr Tryz.prog 108 3 5 (.int .i64 0) := Arr.mk' Tryz.underlying108 (by kernel_rfl) (by kernel_rfl) Tryz.underlying3 rfl

/-- The three tables. -/
def preT : Nat → Nat
  | 0 => 0
  | 1 => 2
  | 2 => 6
  | 3 => 14
  | _ => 15
def lenT : Nat → Nat
  | 0 => 1
  | 1 => 2
  | 2 => 3
  | 3 => 4
  | _ => 4
theorem headT_bits {k : Nat} (h : k ≤ 4) : headT k = fieldBits (preT k) (lenT k) := by
  match k, h with
  | 0, _ => rfl
  | 1, _ => rfl
  | 2, _ => rfl
  | 3, _ => rfl
  | 4, _ => rfl
/-- The bits written so far, and those that are still to be written. -/
def PutAt (bs : List Bool) (l : List Int) (j : Nat) (d : Int) (B : List Bool) : Prop :=
  (j = 0 ∧ d = 0 ∧ B = bs) ∨ (∃ k last, j = k + 1 ∧ l[k]? = some last ∧ B ++ encFrom last d (l.drop j) = bs ++ encT l)
theorem preT_lt (k : Nat) : preT k < 16 := by unfold preT; split <;> decide
theorem lenT_le (k : Nat) : lenT k ≤ 4 := by unfold lenT; split <;> decide
def preCells : List Value := [.int .u64 0, .int .u64 2, .int .u64 6, .int .u64 14, .int .u64 15]
def lenCells : List Value := [.int .i64 1, .int .i64 2, .int .i64 3, .int .i64 4, .int .i64 4]
def widthCells : List Value := [.int .i64 0, .int .i64 7, .int .i64 12, .int .i64 32, .int .i64 64]
theorem preCells_get {k : Nat} (h : k ≤ 4) : preCells[k]? = some (.int .u64 (preT k : Int)) := by
  match k, h with
  | 0, _ => rfl
  | 1, _ => rfl
  | 2, _ => rfl
  | 3, _ => rfl
  | 4, _ => rfl
theorem lenCells_get {k : Nat} (h : k ≤ 4) : lenCells[k]? = some (.int .i64 (lenT k : Int)) := by
  match k, h with
  | 0, _ => rfl
  | 1, _ => rfl
  | 2, _ => rfl
  | 3, _ => rfl
  | 4, _ => rfl
theorem widthCells_get {k : Nat} (h : k ≤ 4) : widthCells[k]? = some (.int .i64 (widthT k : Int)) := by
  match k, h with
  | 0, _ => rfl
  | 1, _ => rfl
  | 2, _ => rfl
  | 3, _ => rfl
  | 4, _ => rfl

/-- What the tables hold in row K. -/
def Cells3 (n1 n2 n3 K : Nat) (w : World) : Prop := w.cell? ⟨n1, K, none⟩ = some (.int .u64 (preT K : Int)) ∧ w.cell? ⟨n2, K, none⟩ = some (.int .i64 (lenT K : Int)) ∧ w.cell? ⟨n3, K, none⟩ = some (.int .i64 (widthT K : Int))
set_option maxHeartbeats 4000000 in
theorem ref_put05 (v lv : Value) (bs : List Bool) (l : List Int) (w : World) (h : BitsIn w v bs) (hl : Rd w 1 lv l.length (i64s l)) (hin : ∀ t ∈ l, in64 t) (hap : l ≠ [] → ∀ k, lv.ownBlock = some k → v.ownBlock ≠ some k) (hz : bs.length + 68 * l.length ≤ 70368744177000) :
    Calls Tryz.prog 32 #[v, lv] w fun e w' => ∃ v', e = .returned v' ∧ RefWrote v (bs ++ encT l) w v' w' := by
  have H := Lib.hid h
  have HL := Lib.hid hl
  obtain ⟨pl, cl, hv⟩ := hl.shape
  subst hv
  clear h hl
  go_enter Tryz.func32, Tryz.ntmps32
  go_wp2_with (refine wpList_allocA Tryz.arrU5 rfl rfl ?_)
  intro w1 hb1 hB1 hs1
  have HK1 := Lib.hid hb1; have HB1 := Lib.hid hB1; have HS1 := Lib.hid hs1
  clear hb1 hB1 hs1
  go_wp2_with (refine wpList_storeA Tryz.arrU5 rfl _ _ rfl w.heap.size rfl preCells _ rfl HK1.out (by simp) rfl (by decide) ?_)
  intro w2 hb2 hM2 hs2
  have HK2 := Lib.hid hb2
  have HB2 : Hid (Below w.heap.size w w2) := HB1.out.trans (hM2.below HB1.out.size (fun k hk e => by omega))
  have HS2 : Hid (w2.heap.size = w.heap.size + 1) := by show _ = _; rw [hs2, HS1.out]
  clear hb2 hM2 hs2 HK1 HB1 HS1
  go_wp2_with (refine wpList_allocA Tryz.arrI5 rfl rfl ?_)
  intro w3 hb3 hB3 hs3
  have HK3 := Lib.hid hb3
  have HS3 : Hid (w3.heap.size = w.heap.size + 2) := by show _ = _; rw [hs3, HS2.out]
  have HKa := Lib.hid (HK2.out.of_same (hB3.block _ (by rw [HS2.out]; omega)))
  have HB3 := Lib.hid (HB2.out.trans (hB3.mono HB2.out.size))
  clear hb3 hB3 hs3 HB2 HK2
  go_wp2_with (refine wpList_storeA Tryz.arrI5 rfl _ _ rfl w2.heap.size rfl lenCells _ rfl HK3.out (by simp) rfl (by decide) ?_)
  intro w4 hb4 hM4 hs4
  have HK4 := Lib.hid hb4
  have HKb := Lib.hid (hM4.blk HKa.out (by rw [HS2.out]; omega))
  have HB4 : Hid (Below w.heap.size w w4) := HB3.out.trans (hM4.below HB3.out.size (fun k hk e => by have := HS2.out; omega))
  have HS4 : Hid (w4.heap.size = w.heap.size + 2) := by show _ = _; rw [hs4, HS3.out]
  clear hb4 hM4 hs4 HK3 HKa HB3 HS3
  go_wp2_with (refine wpList_allocA Tryz.arrI5 rfl rfl ?_)
  intro w5 hb5 hB5 hs5
  have HK5 := Lib.hid hb5
  have HS5 : Hid (w5.heap.size = w.heap.size + 3) := by show _ = _; rw [hs5, HS4.out]
  have HKc := Lib.hid (HKb.out.of_same (hB5.block _ (by rw [HS4.out]; omega)))
  have HKd := Lib.hid (HK4.out.of_same (hB5.block _ (by rw [HS4.out, HS2.out]; omega)))
  have HB5 := Lib.hid (HB4.out.trans (hB5.mono HB4.out.size))
  clear hb5 hB5 hs5 HB4 HKb HK4
  go_wp2_with (refine wpList_storeA Tryz.arrI5 rfl _ _ rfl w4.heap.size rfl widthCells _ rfl HK5.out (by simp) rfl (by decide) ?_)
  intro w6 hb6 hM6 hs6
  have HT3 := Lib.hid hb6
  have HT1 := Lib.hid (hM6.blk HKc.out (by rw [HS4.out]; omega))
  have HT2 := Lib.hid (hM6.blk HKd.out (by rw [HS4.out, HS2.out]; omega))
  have HB6 : Hid (Below w.heap.size w w6) := HB5.out.trans (hM6.below HB5.out.size (fun k hk e => by have := HS4.out; omega))
  have HBA : Hid (w.heap.size ≤ w2.heap.size ∧ w.heap.size ≤ w4.heap.size) := ⟨by rw [HS2.out]; omega, by rw [HS4.out]; omega⟩
  clear hb6 hM6 hs6 HK5 HKc HKd HB5 HS5 HS4 HS2
  have HO6 : Hid (BitsIn w6 v bs) := (Mods.of_below HB6.out (fun _ => False)).owns H.out (fun _ _ e => e)
  have HL6 := Lib.hid (HL.out.below HB6.out)
  have HV : Hid (∀ k, v.ownBlock = some k → k < w.heap.size) := owns_lt H.out
  generalize hn1 : w.heap.size = n1 at *
  have HN1 := Lib.hid hn1
  clear hn1
  generalize w2.heap.size = n2 at *
  generalize w4.heap.size = n3 at *
  go_wp2_with fail
  go_loopw [0, 8, 9] (fun v2 d c wr => ∃ (j : Nat) (dd : Int) (B : List Bool), j ≤ l.length ∧ c = .int .i64 (j : Int) ∧ d = .int .i64 dd ∧ PutAt bs l j dd B ∧ Hid (RefWrote v B w6 v2 wr)) (fun _ _ c _ => l.length - (intOf c).toNat)
  case atStart => exact ⟨0, 0, bs, by omega, rfl, rfl, Or.inl ⟨rfl, rfl, rfl⟩, HO6.out, Mods.refl _ _, Fresh.refl _ _⟩
  case round =>
    obtain ⟨j, dd, B, hj, rfl, rfl, hP, HW⟩ := hrel
    by_cases hlt : j < l.length
    · have hlt' : (j : Int) < (l.length : Int) := by omega
      have HLr := Lib.hid (HL6.out.mods HW.out.mods (fun k hk e => hap (fun e0 => by rw [e0] at hlt; simp at hlt) k hk e))
      obtain ⟨b, off, c', e, hnc, _, hcell⟩ := HLr.out.at (fun e => by have := congrArg List.length e; rw [i64s_length] at this; simp at this; subst this; simp at hlt)
      simp only [Value.slice.injEq] at e
      obtain ⟨rfl, _, rfl⟩ := e
      obtain ⟨t, ht⟩ : ∃ t, l[j] = t := ⟨_, rfl⟩
      have hct : wr.cell? ⟨b, off + j, none⟩ = some (.int .i64 t) := by rw [← ht]; exact hcell j _ (i64s_get l j hlt)
      have hdj : l.drop j = t :: l.drop (j + 1) := by rw [← ht]; exact List.drop_eq_getElem_cons hlt
      have hti : in64 t := ht ▸ hin _ (List.getElem_mem hlt)
      obtain ⟨p0, c0, hv0⟩ := (Rd.of_owns HW.out.own).shape
      subst hv0
      rcases hP with ⟨rfl, rfl, rfl⟩ | ⟨k, last, hjk, hlast, hBl⟩
      · have HE : Hid (∀ B', B' = B ++ fieldBits (ofI t) 64 → PutAt B l 1 0 B') := fun B' e => by
          refine Or.inr ⟨0, t, rfl, by rw [List.getElem?_eq_getElem hlt, ht], ?_⟩
          rw [List.drop_zero] at hdj
          rw [e, List.append_assoc]
          congr 1
          conv => rhs; rw [hdj]
          rw [encT]
        have hwt : IntKind.u64.wrap t = (ofI t : Int) := wrap_ofI t
        have HN : Hid (B.length + 64 ≤ 70368744177664) := by show _ ≤ _; omega
        have hct0 : wr.cell? ⟨b, off, none⟩ = some (.int .i64 t) := hct
        have hlt0 : (0 : Int) < (l.length : Int) := hlt'
        clear hdj hcell ht hct
        go_wp2_with fail
        refine (ref_write _ B (ofI t) 64 _ HW.out.own (ofI_lt t) (by omega) HN.out).mono ?_
        rintro en w7 ⟨v7, rfl, hR⟩
        have HR : Hid (RefWrote v (B ++ fieldBits (ofI t) 64) w6 v7 w7) := HW.out.then hR
        clear hR
        go_wp2_with fail
        go_round
        case rel => exact ⟨1, 0, _, by omega, rfl, rfl, HE.out _ rfl, HR.out⟩
        case measure => simp [intOf]; omega
      · have hkl : k < l.length := by omega
        have hck : wr.cell? ⟨b, off + k, none⟩ = some (.int .i64 last) := hcell k _ (by rw [i64s_get l k hkl]; rw [List.getElem?_eq_getElem hkl] at hlast; rw [Option.some.inj hlast])
        obtain ⟨x, hx⟩ : ∃ x, wrap64 (wrap64 (t - last) - dd) = x := ⟨_, rfl⟩
        obtain ⟨d2, hd2⟩ : ∃ d2, wrap64 (t - last) = d2 := ⟨_, rfl⟩
        have hxin : in64 x := hx ▸ w64_in _
        rw [hdj, encFrom, hx, hd2] at hBl
        rw [hd2] at hx
        have HDx := Lib.hid hx; have HD2 := Lib.hid hd2
        clear hx hd2
        have HE : Hid (∀ B', B' = B ++ encX x → PutAt bs l (j + 1) d2 B') := fun B' e => by
          refine Or.inr ⟨j, t, rfl, by rw [List.getElem?_eq_getElem hlt, ht], ?_⟩
          rw [e, List.append_assoc]; exact hBl
        have HN : Hid (B.length + 68 ≤ 70368744177660) := by
          show _ ≤ _
          have h1 := congrArg List.length hBl
          simp only [List.length_append] at h1
          have h2 := encT_len l
          omega
        have HX : Hid (encX x = fieldBits (preT (formT x)) (lenT (formT x)) ++ fieldBits (ofI x) (widthT (formT x))) := by show _ = _; rw [encX, headT_bits (formT_le x)]
        have hk4 := formT_le x
        have HFm := Lib.hid (ref_form x)
        have hk5 : ((formT x : Nat) : Int) < 5 := by omega
        have HK : Hid (formT x ≤ 4) := hk4
        have HKp : Hid (preT (formT x) < 16) := preT_lt _
        have HKl : Hid (lenT (formT x) ≤ 4) := lenT_le _
        have HKw : Hid (widthT (formT x) ≤ 64) := widthT_le _
        have HCp : Hid (wr.cell? ⟨n1, formT x, none⟩ = some (.int .u64 (preT (formT x) : Int))) := (HW.out.mods.blk HT1.out (fun e => by have := HV.out _ e; omega)).cell _ |>.trans (preCells_get hk4)
        have HCl : Hid (wr.cell? ⟨n2, formT x, none⟩ = some (.int .i64 (lenT (formT x) : Int))) := (HW.out.mods.blk HT2.out (fun e => by have := HV.out _ e; have := HBA.out; omega)).cell _ |>.trans (lenCells_get hk4)
        have HCw : Hid (wr.cell? ⟨n3, formT x, none⟩ = some (.int .i64 (widthT (formT x) : Int))) := (HW.out.mods.blk HT3.out (fun e => by have := HV.out _ e; have := HBA.out; omega)).cell _ |>.trans (widthCells_get hk4)
        generalize formT x = K at *
        have hj1 : (j : Int) - 1 = (k : Int) := by omega
        have hjb : (j == 0) = false := by rw [beq_eq_false_iff_ne]; omega
        have hjb2 : ((j : Int) == 0) = false := by rw [beq_eq_false_iff_ne]; omega
        have hk' : (k : Int) < (l.length : Int) := by omega
        clear hdj hcell ht hlast hBl hjk hkl hk4
        go_wp2_with fail
        go_quiet (fail)
        have HWa : Hid (RefWrote v B w6 (Value.slice p0 B.length c0) (wr.drewN nq)) := HW.out.drewN _
        have hcta : (wr.drewN nq).cell? ⟨b, off + j, none⟩ = some (.int .i64 t) := hct
        have hcka : (wr.drewN nq).cell? ⟨b, off + k, none⟩ = some (.int .i64 last) := hck
        have HCpa : Hid ((wr.drewN nq).cell? ⟨n1, K, none⟩ = some (.int .u64 (preT K : Int))) := HCp.out
        have HCla : Hid ((wr.drewN nq).cell? ⟨n2, K, none⟩ = some (.int .i64 (lenT K : Int))) := HCl.out
        have HCwa : Hid ((wr.drewN nq).cell? ⟨n3, K, none⟩ = some (.int .i64 (widthT K : Int))) := HCw.out
        clear hct hck HCp HCl HCw HW HLr
        generalize wr.drewN nq = wa at *
        go_wp2_with fail
        go_quiet (fail)
        have HWb : Hid (RefWrote v B w6 (Value.slice p0 B.length c0) (wa.drewN nq)) := HWa.out.drewN _
        have HCpb : Hid ((wa.drewN nq).cell? ⟨n1, K, none⟩ = some (.int .u64 (preT K : Int))) := HCpa.out
        have HClb : Hid ((wa.drewN nq).cell? ⟨n2, K, none⟩ = some (.int .i64 (lenT K : Int))) := HCla.out
        have HCwb : Hid ((wa.drewN nq).cell? ⟨n3, K, none⟩ = some (.int .i64 (widthT K : Int))) := HCwa.out
        clear hcta hcka HCpa HCla HCwa HWa
        generalize wa.drewN nq = wb at *
        go_wp2_with fail
        rw [HD2.out, HDx.out]
        refine (HFm.out _).mono ?_
        rintro en w7 ⟨rfl, rfl⟩
        go_wp2_with fail
        have HC : Hid (∀ w' : World, Cells3 n1 n2 n3 K w' → w'.cell? ⟨n1, K, none⟩ = some (.int .u64 (preT K : Int)) ∧ w'.cell? ⟨n2, K, none⟩ = some (.int .i64 (lenT K : Int)) ∧ w'.cell? ⟨n3, K, none⟩ = some (.int .i64 (widthT K : Int))) := fun _ h => h
        refine wp_region_takeH (Cells3 n1 n2 n3 K) [7] [0, 1, 2, 3, 4, 5, 6, 7, 8] (by kernel_rfl) (by kernel_rfl) (by kernel_rfl) ?_ ?_ ?_
        · intro c a a' w hd h; exact ⟨hd ▸ h.1, h.2⟩
        · exact ⟨HCpb.out, HClb.out, HCwb.out⟩
        simp only [taken, List.map_cons, List.map_nil, List.getElem?_cons_succ, List.getElem?_cons_zero, Option.getD_some]
        repeat (first
        | (refine takeH_skip rfl ?_; simp only [Act.put, List.setIfInBounds_toArray, List.set_cons_succ, List.set_cons_zero])
        | (refine takeH_blind rfl rfl ?_; apply Exists.intro; refine ⟨fun w => ?_, ?_⟩; (go_simp; try with_reducible rfl); simp only [Act.put, List.setIfInBounds_toArray, List.set_cons_succ, List.set_cons_zero])
        | (refine takeH_reads rfl rfl ?_; apply Exists.intro; refine ⟨fun w' hS => ?_, ?_⟩; (obtain ⟨d0, d1, d2⟩ := HC.out w' hS; go_simp; try with_reducible rfl); simp only [Act.put, List.setIfInBounds_toArray, List.set_cons_succ, List.set_cons_zero]))
        refine takeH_call rfl rfl (fun K' hK => ?_)
        go_wp2_with fail
        have HWc : Hid (RefWrote v B w6 (Value.slice p0 B.length c0) w7.drew) := HWb.out.drew
        refine (ref_write _ B (preT K) (lenT K) _ HWc.out.own (by have := HKp.out; omega) (by have := HKl.out; omega) (by have := HN.out; omega)).mono ?_
        rintro en w8 ⟨v8, rfl, hR⟩
        have HW8 : Hid (RefWrote v (B ++ fieldBits (preT K) (lenT K)) w6 v8 w8) := HWc.out.then hR
        have HX8 : Hid (B ++ encX x = (B ++ fieldBits (preT K) (lenT K)) ++ fieldBits (ofI x) (widthT K)) := by show _ = _; rw [HX.out, List.append_assoc]
        have HN8 : Hid ((B ++ fieldBits (preT K) (lenT K)).length + 64 ≤ 70368744177664) := by
          show _ ≤ _
          have := HN.out; have := HKl.out
          rw [List.length_append, fieldBits_length]; omega
        clear hR
        generalize B ++ fieldBits (preT K) (lenT K) = L8 at HW8 HX8 HN8
        have HC8 : Hid (Cells3 n1 n2 n3 K w8) := ⟨((HW8.out.mods.blk HT1.out (fun e => by have := HV.out _ e; omega)).cell _).trans (preCells_get HK.out), ((HW8.out.mods.blk HT2.out (fun e => by have := HV.out _ e; have := HBA.out; omega)).cell _).trans (lenCells_get HK.out), ((HW8.out.mods.blk HT3.out (fun e => by have := HV.out _ e; have := HBA.out; omega)).cell _).trans (widthCells_get HK.out)⟩
        obtain ⟨p8, c8, hv8⟩ := (Rd.of_owns HW8.out.own).shape
        subst hv8
        refine hK _ _ HC8.out ?_
        clear hK K' HWb HWc HCpb HClb HCwb
        refine takeH_blind rfl rfl ?_
        apply Exists.intro
        refine ⟨fun w => ?_, ?_⟩
        (go_simp; try with_reducible rfl)
        simp only [Act.put, List.setIfInBounds_toArray, List.set_cons_zero]
        refine takeH_nil ?_
        clear HC
        have hcw := HC8.out.2.2
        have hwx : IntKind.u64.wrap x = (ofI x : Int) := wrap_ofI x
        go_wp2_with fail
        refine (ref_write _ _ (ofI x) (widthT K) w8 HW8.out.own (ofI_lt x) HKw.out HN8.out).mono ?_
        rintro en w9 ⟨v9, rfl, hR⟩
        have HW9 : Hid (RefWrote v (B ++ encX x) w6 v9 w9) := by
          show RefWrote _ _ _ _ _
          rw [HX8.out]
          exact HW8.out.then hR
        clear hR HW8 HC8 hcw hwx
        go_wp2_with fail
        go_round
        case rel => exact ⟨j + 1, d2, _, by omega, by go_num, rfl, HE.out _ rfl, HW9.out⟩
        case measure => simp [intOf]; omega
    · have hnl : ¬ (j : Int) < (l.length : Int) := by omega
      obtain rfl : j = l.length := by omega
      have HE : Hid (B = bs ++ encT l) := by
        rcases hP with ⟨h0, _, rfl⟩ | ⟨k, last, _, _, hBl⟩
        · have : l = [] := List.eq_nil_of_length_eq_zero h0
          subst this
          show B = B ++ []
          rw [List.append_nil]
        · rw [List.drop_length, encFrom, List.append_nil] at hBl
          exact hBl
      rw [HE.out] at HW
      go_wp2_with fail
      go_ret
      exact ⟨_, rfl, HW.out.own, (Mods.of_below (by rw [HN1.out]; exact HB6.out) _).trans HW.out.mods (fun _ _ e => e), fun k hk => by
        rcases HW.out.fresh k hk with e | e
        · exact Or.inl e
        · have := HB6.out.size; have := HN1.out; exact Or.inr (by omega)⟩
end Go.Proofs.YtgpmoimmpbkgfaaGreatDoor

end

section
/- Layer 9: the reference's parts and Encode. -/
set_option linter.unusedVariables false
set_option maxRecDepth 20000
namespace Go.Proofs.YtgpmoimmpbkgfaaGreatDoor
open Go Go.RowKit

/-- Two rows of a call's own, apart. -/
structure PartsIn (w0 w : World) (tv vv : Value) (ts : List Int) (xs : List Nat) : Prop where
  tr : w.ownsRow w0.heap.size 2 1 tv ts.length (i64s ts)
  vr : w.ownsRow w0.heap.size 31 1 vv xs.length (u64s xs)
  ap : ∀ k, tv.ownBlock = some k → vv.ownBlock ≠ some k
  bel : Below w0.heap.size w0 w
theorem PartsIn.pushT {w0 w w' : World} {tv tv' vv : Value} {ts ts' : List Int} {xs : List Nat} (h : PartsIn w0 w tv vv ts xs) (hr : w'.ownsRow 0 2 1 tv' ts'.length (i64s ts')) (hm : Mods (fun k => tv.ownBlock = some k) w w') (hf : Fresh w.heap.size tv tv') : PartsIn w0 w' tv' vv ts' xs := by
  refine ⟨owns_rebase hr (fun k hk => ?_), hm.owns h.vr (fun k hk e => h.ap k e hk), fun k hk e => ?_, h.bel.trans (hm.below h.bel.size (fun k hk e => by have := (h.tr.lt k e).1; omega))⟩
  · rcases hf k hk with e | e
    · exact (h.tr.lt k e).1
    · have := h.bel.size; omega
  · rcases hf k hk with e2 | e2
    · exact h.ap k e2 e
    · have := (h.vr.lt k e).2; omega
theorem PartsIn.pushV {w0 w w' : World} {tv vv vv' : Value} {ts : List Int} {xs xs' : List Nat} (h : PartsIn w0 w tv vv ts xs) (hr : w'.ownsRow 0 31 1 vv' xs'.length (u64s xs')) (hm : Mods (fun k => vv.ownBlock = some k) w w') (hf : Fresh w.heap.size vv vv') : PartsIn w0 w' tv vv' ts xs' := by
  refine ⟨hm.owns h.tr (fun k hk e => h.ap k hk e), owns_rebase hr (fun k hk => ?_), fun k hk e => ?_, h.bel.trans (hm.below h.bel.size (fun k hk e => by have := (h.vr.lt k e).1; omega))⟩
  · rcases hf k hk with e | e
    · exact (h.vr.lt k e).1
    · have := h.bel.size; omega
  · rcases hf k e with e2 | e2
    · exact h.ap k hk e2
    · have := (h.tr.lt k hk).2; omega

set_option maxHeartbeats 4000000 in
theorem ref_parts09 (lv : Value) (l : List (Int × Nat)) (w : World) (hl : Rd w 2 lv l.length (samCells l)) (hn : l.length ≤ 1000000) :
    Calls Tryz.prog 31 #[lv] w fun e w' => ∃ tv vv, e = .returned (.tuple #[tv, vv]) ∧ w'.ownsRow w.heap.size 2 1 tv l.length (i64s (timesC l)) ∧ w'.ownsRow w.heap.size 31 1 vv l.length (u64s (valuesC l)) ∧ Below w.heap.size w w' := by
  have HL := Lib.hid hl; have HN := Lib.hid hn
  obtain ⟨pl, cl, hv⟩ := hl.shape
  subst hv
  clear hl hn
  go_enter Tryz.func31, Tryz.ntmps31
  go_wp2_with fail
  go_loopw [4, 5, 6] (fun tv vv iv wr => ∃ i : Nat, i ≤ l.length ∧ iv = .int .i64 (i : Int) ∧ (∃ p c, tv = .slice p i c) ∧ (∃ p c, vv = .slice p i c) ∧ Hid (PartsIn w wr tv vv (timesC (l.take i)) (valuesC (l.take i)))) (fun _ _ iv _ => l.length - (intOf iv).toNat)
  case atStart => exact ⟨0, Nat.zero_le _, rfl, ⟨_, _, rfl⟩, ⟨_, _, rfl⟩, World.ownsRow_nil _ _ _ _, World.ownsRow_nil _ _ _ _, (fun k e => by cases e), Below.refl _ _⟩
  case round =>
    obtain ⟨i, hi, rfl, ⟨pt, ct, rfl⟩, ⟨pv, cv, rfl⟩, HP⟩ := hrel
    have hib : (i : Int) ≤ 1000000 := by have := HN.out; omega
    by_cases hlt : i < l.length
    · have hlt' : (i : Int) < (l.length : Int) := by omega
      obtain ⟨t, x, htx⟩ : ∃ t x, l[i] = (t, x) := ⟨_, _, rfl⟩
      have hg : l[i]? = some (t, x) := by rw [List.getElem?_eq_getElem hlt, htx]
      obtain ⟨g1, g2⟩ := samCells_get l i t x hg
      obtain ⟨b, off, c', e, hnc, hncm, hcell⟩ := (HL.out.below HP.out.bel).at (fun e => by have := congrArg List.length e; rw [samCells_length, List.length_nil] at this; omega)
      simp only [Value.slice.injEq] at e
      obtain ⟨rfl, _, rfl⟩ := e
      have h1 := hcell _ _ g1
      have h2 := hcell _ _ g2
      rw [← Nat.add_assoc] at h2
      have HG : Hid (∀ w', Below w.heap.size w w' → w'.cell? ⟨b, off + i * 2 + 1, none⟩ = some (.int .u64 (x : Int))) := fun w' hb => by
        obtain ⟨b2, off2, c2, e, _, _, hcell⟩ := (HL.out.below hb).at (fun e => by have := congrArg List.length e; rw [samCells_length, List.length_nil] at this; omega)
        simp only [Value.slice.injEq, Option.some.injEq, Addr.mk.injEq] at e
        obtain ⟨⟨rfl, rfl, _⟩, _, rfl⟩ := e
        have := hcell _ _ g2
        rwa [← Nat.add_assoc] at this
      have HT : Hid (timesC (l.take (i + 1)) = timesC (l.take i) ++ [t]) := by show _ = _; rw [List.take_add_one, hg]; simp [timesC]
      have HV : Hid (valuesC (l.take (i + 1)) = valuesC (l.take i) ++ [x]) := by show _ = _; rw [List.take_add_one, hg]; simp [valuesC]
      have HTl : Hid ((timesC (l.take i)).length = i) := by show _ = _; simp [timesC]; omega
      have HVl : Hid ((valuesC (l.take i)).length = i) := by show _ = _; simp [valuesC]; omega
      generalize timesC (l.take i) = ts at *
      generalize valuesC (l.take i) = xs at *
      have HLb : Hid ((i + 1) * 8 ≤ 140737488355328 ∧ i + 1 ≤ maxLen) := by show _ ∧ _; unfold maxLen; omega
      have HO1 : Hid (wr.ownsRow 0 2 1 (.slice pt i ct) i (i64s ts)) := by
        have h := owns_rebase HP.out.tr (base' := 0) (fun _ _ => Nat.zero_le _)
        rw [HTl.out] at h
        exact h
      clear hcell hnc hncm g1 g2 hg htx h2
      go_wp2_with (at_builtin; refine wpList_push Tryz.elemI64 wr #[.int .i64 t] _ _ _ HO1.out rfl (one_cell _ rfl) HLb.out rfl _ _ rfl rfl rfl ?_)
      intro v8 w8 hown hmods hfr
      have HP8 : Hid (PartsIn w w8 v8 (.slice pv i cv) (ts ++ [t]) xs) := HP.out.pushT (by rw [List.length_append, HTl.out, i64s_append]; exact hown) hmods hfr
      obtain ⟨p8, c8, hv8⟩ : ∃ p c, v8 = .slice p (i + 1) c := (Rd.of_owns hown).shape
      subst hv8
      clear hown hmods hfr HO1 h1 HP
      have h2 := HG.out w8 HP8.out.bel
      have HO2 : Hid (w8.ownsRow 0 31 1 (.slice pv i cv) i (u64s xs)) := by
        have h := owns_rebase HP8.out.vr (base' := 0) (fun _ _ => Nat.zero_le _)
        rw [HVl.out] at h
        exact h
      go_wp2_with (at_builtin; refine wpList_push Tryz.elemU64 w8 #[.int .u64 (x : Int)] _ _ _ HO2.out rfl (one_cell _ rfl) HLb.out rfl _ _ rfl rfl rfl ?_)
      intro v9 w9 hown hmods hfr
      have HP9 : Hid (PartsIn w w9 (.slice p8 (i + 1) c8) v9 (ts ++ [t]) (xs ++ [x])) := HP8.out.pushV (by rw [List.length_append, HVl.out, u64s_append]; exact hown) hmods hfr
      obtain ⟨p9, c9, hv9⟩ : ∃ p c, v9 = .slice p (i + 1) c := (Rd.of_owns hown).shape
      subst hv9
      clear hown hmods hfr HO2 h2 HP8
      go_wp2_with fail
      go_round
      case rel => exact ⟨i + 1, by omega, by go_num, ⟨_, _, rfl⟩, ⟨_, _, rfl⟩, by rw [HT.out, HV.out]; exact HP9.out⟩
      case measure => simp [intOf]; omega
    · have hlt' : ¬ (i : Int) < (l.length : Int) := by omega
      obtain rfl : i = l.length := by omega
      rw [List.take_length] at HP
      go_wp2_with fail
      go_ret2
      have h1 := HP.out.tr; have h2 := HP.out.vr
      rw [show (timesC l).length = l.length by simp [timesC]] at h1
      rw [show (valuesC l).length = l.length by simp [valuesC]] at h2
      exact ⟨_, _, rfl, h1, h2, HP.out.bel⟩

set_option maxHeartbeats 4000000 in
theorem ref_encode09 (lv : Value) (l : List (Int × Nat)) (w : World) (hl : Rd w 2 lv l.length (samCells l)) (ok : ∀ s ∈ l, sampleOk s) (hn : l.length ≤ 1000000) :
    Calls Tryz.prog 16 #[lv] w fun e w' => ∃ r, e = .returned (.tuple #[r, .int .i64 ((encC l).2 : Int)]) ∧ Rd w' 1 r (encC l).1.length (u8s (encC l).1) ∧ Below w.heap.size w w' := by
  have HL := Lib.hid hl; have HO := Lib.hid ok
  obtain ⟨pl, cl, hv⟩ := hl.shape
  subst hv
  have HPa := Lib.hid (ref_parts09 _ l w hl hn)
  clear hl ok
  by_cases h0 : l.length = 0
  · have hz : (l.length : Int) = 0 := by omega
    have HE : Hid (encC l = ([], 21)) := by show _ = _; rw [encC, if_pos (List.eq_nil_of_length_eq_zero h0)]
    clear h0 hn HPa
    go_enter Tryz.func16, Tryz.ntmps16
    go_wp2_with fail
    go_ret2
    rw [HE.out]
    exact ⟨_, rfl, Rd.nil _ _, Below.refl _ _⟩
  · have hz : ¬ (l.length : Int) = 0 := by omega
    have hzb : ((l.length : Int) == 0) = false := by rw [beq_eq_false_iff_ne]; exact hz
    have hne : l ≠ [] := fun e => h0 (by rw [e]; rfl)
    by_cases h120 : 120 < l.length
    · have h120' : (120 : Int) < (l.length : Int) := by omega
      have HE : Hid (encC l = ([], 7)) := by show _ = _; rw [encC, if_neg hne, if_pos h120]
      clear h0 hn HPa hne h120
      go_enter Tryz.func16, Tryz.ntmps16
      go_wp2_with fail
      go_ret2
      rw [HE.out]
      exact ⟨_, rfl, Rd.nil _ _, Below.refl _ _⟩
    · have h120' : ¬ (120 : Int) < (l.length : Int) := by omega
      have HE : Hid (encC l = (chooseC (valuesC l) :: (l.length - 1) :: pack (encT (timesC l) ++ bitsC (chooseC (valuesC l)) (valuesC l)), 0)) := by show _ = _; rw [encC, if_neg hne, if_neg h120]
      have HN : Hid (0 < l.length ∧ l.length ≤ 120) := by show _ ∧ _; omega
      have HTi : Hid (∀ t ∈ timesC l, in64 t) := fun t ht => by
        obtain ⟨s, hs, rfl⟩ := List.mem_map.1 ht
        exact (HO.out s hs).1
      have HVi : Hid (∀ x ∈ valuesC l, in64u x) := fun x hx => by
        obtain ⟨s, hs, rfl⟩ := List.mem_map.1 hx
        exact (HO.out s hs).2
      have HTl : Hid ((timesC l).length = l.length) := by show _ = _; simp [timesC]
      have HVl : Hid ((valuesC l).length = l.length) := by show _ = _; simp [valuesC]
      clear h0 hn hne h120
      generalize timesC l = ts at *
      generalize valuesC l = xs at *
      go_enter Tryz.func16, Tryz.ntmps16
      go_wp2_with fail
      refine HPa.out.mono ?_
      rintro e w1 ⟨tv, vv, rfl, ht1, hv1, hB⟩
      have HB1 := Lib.hid hB
      rw [← HTl.out] at ht1
      rw [← HVl.out] at hv1
      have HT1 := Lib.hid (Rd.of_owns ht1)
      have HV1 := Lib.hid (Rd.of_owns hv1)
      have HVo : Hid (∀ k, vv.ownBlock = some k → k < w1.heap.size) := fun k hk => (hv1.lt k hk).2
      obtain ⟨pt, ct, he⟩ := (Rd.of_owns ht1).shape
      subst he
      obtain ⟨pv, cv, he⟩ := (Rd.of_owns hv1).shape
      subst he
      clear ht1 hv1 hB HPa
      go_wp2_with fail
      refine (ref_choose09 _ xs w1 HV1.out HVi.out (by rw [HVl.out]; have := HN.out; omega)).mono ?_
      rintro e w2 ⟨rfl, hB⟩
      have HB2 := Lib.hid (HB1.out.trans (hB.mono HB1.out.size))
      have HT2 := Lib.hid (HT1.out.below hB)
      have HV2 := Lib.hid (HV1.out.below hB)
      have HVp : Hid (∀ k, (Value.slice pv xs.length cv).ownBlock = some k → k < w2.heap.size) := fun k hk => by have := HVo.out k hk; have := hB.size; omega
      have HTg := Lib.hid (choose_tag xs)
      have H02 : Hid (w.heap.size ≤ w2.heap.size) := HB2.out.size
      have HPu := Lib.hid (ref_put05 (.slice none 0 0) _ [] ts w2 (World.ownsRow_nil _ _ _ _) HT2.out HTi.out (fun _ k _ e => by cases e) (by rw [HTl.out]; have := HN.out; simp; omega))
      rw [List.nil_append] at HPu
      clear hB HB1 HT1 HV1 HVo
      generalize chooseC xs = tag at *
      go_wp2_with fail
      refine HPu.out.mono ?_
      rintro e w3 ⟨v3, rfl, hR⟩
      have HR3 := Lib.hid hR
      have hb3 : Below w2.heap.size w2 w3 := hR.mods.below (Nat.le_refl _) (fun k _ e => by cases e)
      have HB3 := Lib.hid (HB2.out.trans (hb3.mono HB2.out.size))
      have HV3 := Lib.hid (HV2.out.below hb3)
      have HF3 : Hid (∀ k, v3.ownBlock = some k → w2.heap.size ≤ k) := fun k hk => by
        rcases hR.fresh k hk with e | e
        · cases e
        · exact e
      have HEl : Hid ((encT ts).length ≤ 8160) := by show _ ≤ _; have := encT_len ts; have := HTl.out; have := HN.out; omega
      obtain ⟨p3, c3, he⟩ := (Rd.of_owns hR.own).shape
      subst he
      have HPp := Lib.hid (ref_put09 tag HTg.out _ _ (encT ts) xs w3 hR.own HV3.out HVi.out (fun _ k hk e => by have := HF3.out k e; have := HVp.out k hk; omega) (by rw [HVl.out]; have := HN.out; omega) (by have := HEl.out; omega))
      clear hR hb3 HPu HB2 HT2 HV2
      go_wp2_with fail
      refine HPp.out.mono ?_
      rintro e w4 ⟨v4, rfl, hR⟩
      have hb4 : Below w2.heap.size w3 w4 := hR.mods.below (HR3.out.mods.size) (fun k hk e => by have := HF3.out k e; omega)
      have HB4 := Lib.hid (HB3.out.trans (hb4.mono H02.out))
      have HR4 := Lib.hid (Rd.of_owns hR.own)
      have HBl : Hid ((encT ts ++ bitsC tag xs).length ≤ 100000) := by
        show _ ≤ _
        have := bitsC_len tag xs; have := HEl.out; have := HVl.out; have := HN.out
        rw [List.length_append]; omega
      obtain ⟨p4, c4, he⟩ := (Rd.of_owns hR.own).shape
      subst he
      have htb : (tag : Int) ≤ 3 ∧ (1 : Int) ≤ (tag : Int) := by have := HTg.out; omega
      obtain ⟨ht1, ht2⟩ := htb
      have hlm : (l.length : Int) - 1 = ((l.length - 1 : Nat) : Int) := by have := HN.out; omega
      have hw1 : IntKind.u8.wrap (tag : Int) = (tag : Int) := by rw [IntKind.wrap_u8]; omega
      have hw2 : IntKind.u8.wrap ((l.length - 1 : Nat) : Int) = ((l.length - 1 : Nat) : Int) := by rw [IntKind.wrap_u8]; have := HN.out; omega
      have hm2 : ((l.length - 1 : Nat) : Int) ≤ 120 := by have := HN.out; omega
      clear hR hb4 HPp HB3 HV3 HR3 HF3
      generalize encT ts ++ bitsC tag xs = B at *
      generalize l.length - 1 = M at *
      go_wp2_with fail
      have hb5 : Below w4.heap.size w4 (w4.alloc (.cells #[.int .u8 (tag : Int), .int .u8 (M : Int)] 5)) := (Below.refl _ _).alloc (Nat.le_refl _) _
      have HO5 : Hid ((w4.alloc (.cells #[.int .u8 (tag : Int), .int .u8 (M : Int)] 5)).ownsRow w.heap.size 5 1 (.slice (some ⟨w4.heap.size, 0, none⟩) 2 2) 2 (u8s [tag, M])) := World.ownsRow_lit (base := w.heap.size) w4 #[.int .u8 (tag : Int), .int .u8 (M : Int)] 2 HB4.out.size (by simp [maxLen]) (by simp)
      have HB5 := Lib.hid (HB4.out.trans (hb5.mono HB4.out.size))
      have HR5 := Lib.hid (HR4.out.below hb5)
      clear hb5 HB4 HR4
      generalize w4.alloc (.cells #[.int .u8 (tag : Int), .int .u8 (M : Int)] 5) = w5 at *
      generalize w4.heap.size = q4 at *
      refine (ref_pack _ B w5 HR5.out (by have := HBl.out; omega)).mono ?_
      rintro e w6 ⟨r6, rfl, hM⟩
      have HB6 := Lib.hid (HB5.out.trans (hM.2.mono HB5.out.size))
      have HO6 := Lib.hid ((Mods.of_below hM.2 (fun _ => False)).owns HO5.out (fun _ _ e => e))
      have HP6 := Lib.hid (Rd.of_owns hM.1)
      have HLb : Hid ((2 + (pack B).length) * 1 ≤ 140737488355328 ∧ 2 + (pack B).length ≤ maxLen) := by show _ ∧ _; have := HBl.out; rw [pack_length]; unfold maxLen; omega
      have HO7 := Lib.hid (owns_rebase HO6.out (base' := 0) (fun _ _ => Nat.zero_le _))
      clear hM HR5 HB5 HO5
      go_wp2_with (at_builtin; refine wpList_extend Tryz.elemU8 _ _ _ _ _ _ _ HO7.out HP6.out (u8s_oneCell _) HLb.out rfl _ _ rfl rfl rfl ?_)
      intro v8 w8 hown hmods hfr
      have HB8 : Hid (Below w.heap.size w w8) := HB6.out.trans (hmods.below HB6.out.size (fun k hk e => by have := (HO6.out.lt k e).1; omega))
      have HR8 : Hid (Rd w8 1 v8 (tag :: M :: pack B).length (u8s (tag :: M :: pack B))) := by
        have h := Rd.of_owns hown
        have e : u8s [tag, M] ++ u8s (pack B) = u8s (tag :: M :: pack B) := by rw [← u8s_append]; rfl
        rw [e, show 2 + (pack B).length = (tag :: M :: pack B).length by simp; omega] at h
        exact h
      obtain ⟨p8, c8, hv8⟩ := HR8.out.shape
      subst hv8
      clear hown hmods hfr HO6 HO7 HP6
      go_wp2_with fail
      go_ret2
      rw [HE.out]
      exact ⟨_, rfl, HR8.out, HB8.out⟩
end Go.Proofs.YtgpmoimmpbkgfaaGreatDoor

end
