/- Layer 1: the reference's Pack and Unpack. -/
import Derived.Test.YtpphgmgdmdehpaaRef01A
import Derived.Test.YtpphgmgdmdehpaaBitsB
import Derived.Test.YtpphgmgdmdehpaaBytes
set_option maxRecDepth 20000
namespace Go.Proofs.Ytpphgmgdmdehpaa
open Go Go.RowKit

def byteUpTo (l : List Bool) (j k : Nat) : Nat := (List.range k).foldl (fun c k => c * 2 + (l.getD (8 * j + k) false).toNat) 0
theorem byteUpTo_succ (l : List Bool) (j k : Nat) : byteUpTo l j (k + 1) = byteUpTo l j k * 2 + (l.getD (8 * j + k) false).toNat := by simp [byteUpTo, List.range_succ]
theorem byteUpTo_lt (l : List Bool) (j k : Nat) (hk : k ≤ 8) : byteUpTo l j k < 256 := by
  have : byteUpTo l j k < 2 ^ k := by
    clear hk
    induction k with
    | zero => simp [byteUpTo]
    | succ k ih => rw [byteUpTo_succ, Nat.pow_succ]; have : (l.getD (8 * j + k) false).toNat ≤ 1 := by cases l.getD (8 * j + k) false <;> simp
                   omega
  have h2 : 2 ^ k ≤ 2 ^ 8 := Nat.pow_le_pow_right (by omega) hk
  omega

theorem pack_take_succ (l : List Bool) (j : Nat) (h : j < (l.length + 7) / 8) : (pack l).take (j + 1) = (pack l).take j ++ [byteOf l j] := by
  rw [List.take_add_one, pack_get l j h]; rfl

set_option maxHeartbeats 1000000 in
theorem ref_pack (v : Value) (bs : List Bool) (w : World) (h : Rd w 1 v bs.length (bls bs)) (hb : bs.length ≤ 70368744177664) :
    Calls Try.prog 23 #[v] w fun e w' => ∃ r, e = .returned r ∧ Made w w' 5 1 r (pack bs).length (u8s (pack bs)) := by
  obtain ⟨i0, hi, hz0, hz1, hz2⟩ := info_parts Try.infoU8
  have hcell : ∀ j (hj : j < bs.length), ∃ b off c, v = .slice (some ⟨b, off, none⟩) bs.length c ∧ w.cell? ⟨b, off + j, none⟩ = some (.bool bs[j]) ∧ b < w.heap.size := fun j hj => by
    obtain ⟨b, off, c, hv, _, _, hc⟩ := h.at (fun e => by have := congrArg List.length e; rw [bls_length] at this; simp at this; subst this; simp at hj)
    have hc' := hc j _ (bls_get bs j hj)
    exact ⟨b, off, c, hv, hc', World.block_lt_of_cell? w _ hc'⟩
  have HC := Lib.hid hcell
  obtain ⟨p, c, hv⟩ := h.shape
  subst hv
  clear h hcell
  go_enter Try.func23, Try.ntmps23
  go_wp2
  go_loopw [3, 4] (fun out i wr => ∃ j : Nat, j ≤ (bs.length + 7) / 8 ∧ i = .int .i64 ((8 * j : Nat) : Int) ∧ wr.ownsRow w.heap.size 5 1 out j (u8s ((pack bs).take j)) ∧ Below w.heap.size w wr) (fun _ i _ => bs.length + 8 - (intOf i).toNat)
  case atStart => exact ⟨0, Nat.zero_le _, rfl, by simpa [u8s] using World.ownsRow_nil _ _ _ _, Below.refl _ _⟩
  case round =>
    obtain ⟨j, hj, rfl, hown, hB⟩ := hrel
    by_cases hlt : 8 * j < bs.length
    · have hlt' : ((8 * j : Nat) : Int) < (bs.length : Int) := by omega
      have HO := Lib.hid hown; have HB := Lib.hid hB; clear hown hB
      go_wp2
      go_loop [5, 6] (fun c k => ∃ i : Nat, i ≤ 8 ∧ k = .int .i64 i ∧ c = .int .i64 (byteUpTo bs j i)) (fun _ k => 8 - (intOf k).toNat)
      case atStart => exact ⟨0, by omega, rfl, rfl⟩
      case round =>
        obtain ⟨i, hi8, rfl, rfl⟩ := hrel
        by_cases hi8' : i < 8
        · have hc := byteUpTo_lt bs j i hi8
          have HS := Lib.hid (byteUpTo_succ bs j i)
          by_cases hin : 8 * j + i < bs.length
          · have hin' : ((8 * j : Nat) : Int) + (i : Int) < (bs.length : Int) := by omega
            obtain ⟨b, off, c', hv, hcell, hbl⟩ := HC.out _ hin
            simp only [Value.slice.injEq] at hv
            obtain ⟨rfl, _, rfl⟩ := hv
            have hcw : wr.cell? ⟨b, off + (8 * j + i), none⟩ = some (.bool bs[8 * j + i]) := (HB.out.cell (p := ⟨b, off + (8 * j + i), none⟩) hbl).trans hcell
            have hgd : bs.getD (8 * j + i) false = bs[8 * j + i] := by simp [List.getD, hin]
            rw [hgd] at HS
            clear hcell hgd hbl
            generalize bs[8 * j + i] = x at *
            cases x with
            | true =>
              go_wp2
              go_round
              case rel => exact ⟨i + 1, by omega, by go_num, by rw [HS.out]; go_num⟩
              case measure => simp [intOf]; omega
            | false =>
              go_wp2
              go_round
              case rel => exact ⟨i + 1, by omega, by go_num, by rw [HS.out]; go_num⟩
              case measure => simp [intOf]; omega
          · have hin' : ¬ ((8 * j : Nat) : Int) + (i : Int) < (bs.length : Int) := by omega
            have hgd : bs.getD (8 * j + i) false = false := getD_past bs _ (by omega)
            rw [hgd] at HS
            clear hgd
            go_wp2
            go_round
            case rel => exact ⟨i + 1, by omega, by go_num, by rw [HS.out]; go_num⟩
            case measure => simp [intOf]; omega
        · obtain rfl : i = 8 := by omega
          have hc := byteOf_lt bs j
          have hb8 : byteUpTo bs j 8 = byteOf bs j := rfl
          rw [hb8]
          clear hb8
          have HT := Lib.hid (pack_take_succ bs j (by omega))
          have HL : Hid (((pack bs).take j).length = j) := by show _ = _; rw [List.length_take, pack_length]; omega
          have hLb : (j + 1) * 1 ≤ 140737488355328 ∧ j + 1 ≤ maxLen := by unfold maxLen; omega
          have HLb := Lib.hid hLb; clear hLb
          go_wp2_with (at_builtin; refine wpList_push Try.elemU8 wr #[.int .u8 (byteOf bs j)] _ _ _ (owns_rebase HO.out (fun _ _ => Nat.zero_le _)) rfl (one_cell _ rfl) HLb.out rfl _ _ rfl rfl rfl ?_)
          intro v' w1 hown' hmods hfr
          have HR : Hid (w1.ownsRow w.heap.size 5 1 v' (j + 1) (u8s ((pack bs).take (j + 1))) ∧ Below w.heap.size w w1) := by
            refine ⟨?_, HB.out.trans (hmods.below HB.out.size (fun k hk e => by have := (HO.out.lt k e).1; omega))⟩
            rw [HT.out, u8s_append]
            exact owns_rebase hown' (fun k hk => by
              rcases hfr k hk with e | e
              · exact (HO.out.lt k e).1
              · have := HB.out.size; omega)
          clear hown' hmods hfr HO HB HT HL HLb
          go_wp2
          go_roundw
          case rel => exact ⟨j + 1, by omega, by go_num, HR.out.1, HR.out.2⟩
          case measure => simp [intOf]; omega
    · obtain rfl : j = (bs.length + 7) / 8 := by omega
      go_wp2
      go_ret
      refine ⟨_, rfl, ?_, hB⟩
      rw [List.take_of_length_le (by rw [pack_length]; exact Nat.le_refl _)] at hown
      rw [pack_length]; exact hown

theorem rd_u8_cell {w : World} {v : Value} {l : List Nat} (h : Rd w 1 v l.length (u8s l)) (j : Nat) (hj : j < l.length) : ∃ b off c, v = .slice (some ⟨b, off, none⟩) l.length c ∧ w.cell? ⟨b, off + j, none⟩ = some (.int .u8 (l[j] : Nat)) ∧ b < w.heap.size := by
  obtain ⟨b, off, c, hv, _, _, hc⟩ := h.at (fun e => by have := congrArg List.length e; rw [u8s_length] at this; simp at this; subst this; simp at hj)
  have hc' := hc j _ (u8s_get l j hj)
  exact ⟨b, off, c, hv, hc', World.block_lt_of_cell? w _ hc'⟩
theorem unpack_take_succ (l : List Nat) (j : Nat) (hj : j < l.length) : unpack (l.take (j + 1)) = unpack (l.take j) ++ fieldBits l[j] 8 := by
  rw [List.take_add_one, List.getElem?_eq_getElem hj, unpack_append]; simp [unpack]

set_option maxHeartbeats 400000 in
theorem ref_unpack (v : Value) (l : List Nat) (w : World) (h : Rd w 1 v l.length (u8s l)) (h8 : ∀ x ∈ l, x < 256) (hb : l.length ≤ 8796093022200) :
    Calls Try.prog 28 #[v] w fun e w' => ∃ r, e = .returned r ∧ Made w w' 4 1 r (unpack l).length (bls (unpack l)) := by
  have HC := Lib.hid (rd_u8_cell h)
  obtain ⟨p, c, hv⟩ := h.shape
  subst hv
  clear h
  go_enter Try.func28, Try.ntmps28
  go_wp2
  go_loopw [3, 4] (fun out i wr => ∃ j : Nat, j ≤ l.length ∧ i = .int .i64 j ∧ BitsIn wr out (unpack (l.take j)) ∧ (∀ k, out.ownBlock = some k → w.heap.size ≤ k) ∧ Below w.heap.size w wr) (fun _ i _ => l.length - (intOf i).toNat)
  case atStart => exact ⟨0, Nat.zero_le _, rfl, World.ownsRow_nil _ _ _ _, by simp [Value.ownBlock], Below.refl _ _⟩
  case round =>
    obtain ⟨j, hj, rfl, hown, hfr, hB⟩ := hrel
    by_cases hlt : j < l.length
    · have HO := Lib.hid hown; have HB := Lib.hid hB; have HF := Lib.hid hfr
      obtain ⟨b, off, c', hv, hcell, hbl⟩ := HC.out _ hlt
      simp only [Value.slice.injEq] at hv
      obtain ⟨rfl, _, rfl⟩ := hv
      have hcw : wr.cell? ⟨b, off + j, none⟩ = some (.int .u8 (l[j] : Nat)) := (hB.cell (p := ⟨b, off + j, none⟩) hbl).trans hcell
      have hx := h8 l[j] (List.getElem_mem _)
      have HS := Lib.hid (unpack_take_succ l j hlt)
      have hUl : (unpack (l.take j)).length + 64 ≤ 70368744177664 := by rw [unpack_length, List.length_take]; omega
      clear hown hB hfr hcell hbl
      generalize l[j] = x at *
      go_wp2_with (go_at_call 42; refine (ref_write _ _ x 8 _ HO.out (by omega) (by omega) hUl).mono ?_; rintro e w' ⟨v2, rfl, hW⟩)
      go_roundw
      case rel =>
        refine ⟨j + 1, by omega, by go_num, by rw [HS.out]; exact hW.own, fun k hk => ?_, HB.out.trans (hW.mods.below HB.out.size (fun k hk e => by have := HF.out k e; omega))⟩
        rcases hW.fresh k hk with e | e
        · exact HF.out k e
        · have := HB.out.size; omega
      case measure => simp [intOf]; omega
    · obtain rfl : j = l.length := by omega
      go_wp2
      go_ret
      rw [List.take_length] at hown
      exact ⟨_, rfl, owns_rebase hown hfr, hB⟩
end Go.Proofs.Ytpphgmgdmdehpaa
