/- Ref02, Ref04R, WireB, FromTo, WireTup, VarintGet, WireGu, WireEu, WireNe, WireFu, WireEnds, Array, Struct, in one text. -/
import Derived.Test.YtpjfhakmffcolaaMrg2
import Derived.Test.YtpjfhakmffcolaaMrg3
import Derived.Test.YtpjfhakmffcolaaMrg6
import Derived.Test.YtpjfhakmffcolaaMrg1
import Derived.Laws.Rows
import Derived.Laws.PanicsMore
import Derived.Deep.MidRow
import Derived.Test.YtpjfhakmffcolaaMrg7

section
/- Layer 2: the reference's functions. -/
set_option linter.unusedVariables false
namespace Go.Proofs.Ytpjfhakmffcolaa
open Go Go.RowKit

set_option maxHeartbeats 400000 in
theorem ref_encode (x : Nat) (hx : x < 18446744073709551616) (w : World) :
    Calls Try.prog 47 #[.int .u64 (x : Int)] w fun e w' => ∃ r, e = .returned r ∧ Made w w' 5 1 r (groups x).length (u8s (groups x)) := by
  induction x using Nat.strongRecOn generalizing w with
  | _ x ih =>
    by_cases h : x < 128
    · have hlt : (x : Int) < 128 := by omega
      rw [groups_small h]
      clear ih
      go_enter Try.func47, Try.ntmps47
      go_wp2
      go_ret
      exact ⟨_, rfl, World.ownsRow_lit (base := w.heap.size) w #[.int .u8 (x : Int)] 1 (Nat.le_refl _) (by simp [maxLen]) (by simp), (Below.refl _ _).alloc (Nat.le_refl _) _⟩
    · have hlt : ¬ (x : Int) < 128 := by omega
      have HI := Lib.hid (ih (x / 128) (by omega) (by omega))
      have hlen := groups_len 8 (x / 128) (by omega)
      have hd : ((x / 128 : Nat) : Int) = (x : Int) / 128 := by omega
      have HD := Lib.hid hd
      clear ih hd
      go_enter Try.func47, Try.ntmps47
      go_wp2_with fail
      rw [← HD.out]
      refine (HI.out _).mono ?_
      rintro e w' ⟨r, rfl, hM⟩
      obtain ⟨rp, rc, hr⟩ := (Rd.of_owns hM.1).shape
      subst hr
      have HR := Lib.hid (Rd.of_owns hM.1)
      have hB : Below w.heap.size w w' := ((Below.refl _ w).alloc (Nat.le_refl _) _).trans (hM.2.mono (by simp))
      have HB := Lib.hid hB
      have HO : Hid (w'.ownsRow 0 5 1 (.slice (some ⟨w.heap.size, 0, none⟩) 1 1) 1 [.int .u8 ((x : Int) % 128 + 128)]) :=
        (Mods.of_below hM.2 (fun _ => False)).owns (World.ownsRow_lit (base := 0) w #[.int .u8 ((x : Int) % 128 + 128)] 1 (Nat.zero_le _) (by simp [maxLen]) (by simp)) (fun _ _ e => e)
      have HL : Hid ((1 + (groups (x / 128)).length) * 1 ≤ 140737488355328 ∧ 1 + (groups (x / 128)).length ≤ maxLen) := by show _ ∧ _; unfold maxLen; omega
      clear hM hB
      go_wp2_with (at_builtin; refine wpList_extend Try.elemU8 _ _ _ _ _ _ _ HO.out HR.out (u8s_oneCell _) HL.out rfl _ _ rfl rfl rfl ?_)
      intro v' w2 hown hmods hfr
      have HM : Hid (Made w w2 5 1 v' (groups x).length (u8s (groups x))) := by
        refine ⟨?_, HB.out.trans (hmods.below HB.out.size (fun k hk e => by simp [Value.ownBlock] at e; omega))⟩
        have h2 := owns_rebase hown (base' := w.heap.size) (fun k hk => by
          rcases hfr k hk with e | e
          · simp [Value.ownBlock] at e; omega
          · have := HB.out.size; omega)
        rw [groups_big h, List.length_cons, Nat.add_comm]
        simpa [u8s] using h2
      clear hown hmods hfr
      go_wp2
      go_ret
      exact ⟨_, rfl, HM.out⟩

set_option maxHeartbeats 400000 in
theorem ref_get_arg (v : Value) (l : List Nat) (o : Int) (w : World) (h : Rd w 1 v l.length (u8s l)) (ho : o < 0 ∨ (l.length : Int) < o) :
    Calls Try.prog 79 #[v, .int .i64 o] w fun e w' => e = .returned (.tuple #[.int .u64 0, .int .i64 0, .int .i64 2]) ∧ w = w' := by
  obtain ⟨p, c, hv⟩ := h.shape
  subst hv
  clear h
  by_cases hneg : o < 0
  · clear ho
    go_enter Try.func79, Try.ntmps79
    go_wp2_with fail
    go_ret3
    exact ⟨rfl, rfl⟩
  · have ho' : (l.length : Int) < o := by omega
    clear ho
    go_enter Try.func79, Try.ntmps79
    go_wp2_with fail
    go_ret3
    exact ⟨rfl, rfl⟩

set_option maxHeartbeats 400000 in
theorem ref_get_in (v : Value) (l : List Nat) (o : Nat) (w : World) (h : Rd w 1 v l.length (u8s l)) (ho : o ≤ l.length) (hl : ∀ c ∈ l, c < 256) :
    Calls Try.prog 79 #[v, .int .i64 (o : Int)] w fun e w' => e = .returned (.tuple #[.int .u64 ((readAt l o).1 : Int), .int .i64 (readAt l o).2.1, .int .i64 ((readAt l o).2.2 : Int)]) ∧ w = w' := by
  have hmax : (l.length : Int) ≤ 9223372036854775807 := by have := h.le; unfold maxLen at this; omega
  obtain ⟨p, c, hv⟩ := h.shape
  subst hv
  have hle : ¬ (l.length : Int) < (o : Int) := by omega
  have H2 := Lib.hid h; clear h
  have HM := Lib.hid hl; clear hl
  have HR : Hid (∀ a n e, readFrom (l.drop o) 0 0 = (a, n, e) → readAt l o = (a, (if e = 0 then (o : Int) + n else 0), e)) := fun a n e h => readAt_in ho h
  go_enter Try.func79, Try.ntmps79
  go_wp2_with fail
  go_loop [7, 8, 9] (fun x n i => ∃ (k y U : Nat), i = .int .i64 (k : Int) ∧ x = .int .u64 (y : Int) ∧ n = .int .u64 (U : Int) ∧ o + k ≤ l.length ∧ k ≤ 9 ∧ y < U ∧ Hid (U = 2 ^ (7 * k)) ∧ U ≤ 9223372036854775808 ∧ Hid (readFrom (l.drop o) 0 0 = readFrom (l.drop (o + k)) k y)) (fun _ _ i => l.length - o - (intOf i).toNat)
  case atStart => exact ⟨0, 0, 1, rfl, rfl, rfl, by omega, by omega, by omega, rfl, by omega, rfl⟩
  case round =>
    obtain ⟨k, y, U, rfl, rfl, rfl, hk, hk9, hy, hU, hU2, hrf⟩ := hrel
    have hok : (o : Int) + (k : Int) ≤ (l.length : Int) := by omega
    by_cases hlt : o + k < l.length
    · have hlt' : ¬ (l.length : Int) ≤ (o : Int) + (k : Int) := by omega
      obtain ⟨b, off, c', e, _, _, hc⟩ := H2.out.at (fun e => by have := congrArg List.length e; rw [u8s_length] at this; simp at this; subst this; simp at hlt)
      simp only [Value.slice.injEq] at e
      obtain ⟨rfl, _, rfl⟩ := e
      obtain ⟨u, hu⟩ : ∃ u, l[o + k] = u := ⟨_, rfl⟩
      have hcell : w.cell? ⟨b, off + (o + k), none⟩ = some (.int .u8 (u : Int)) := by rw [← hu]; exact hc (o + k) _ (u8s_get _ _ hlt)
      have hu256 : u < 256 := hu ▸ HM.out _ (List.getElem_mem hlt)
      have hdrop : l.drop (o + k) = u :: l.drop (o + (k + 1)) := by rw [← hu]; exact List.drop_eq_getElem_cons hlt
      have HF : Hid (readFrom (l.drop o) 0 0 = readFrom (u :: l.drop (o + (k + 1))) k y) := by show _ = _; rw [← hdrop]; exact hrf.out
      clear hc hdrop hrf hu
      by_cases h9 : k = 9 ∧ 1 < u
      · obtain ⟨rfl, h1⟩ := h9
        have h1' : (1 : Int) < (u : Int) := by omega
        have HA := Lib.hid (HR.out 0 0 6 (by rw [HF.out, readFrom, if_pos ⟨rfl, h1⟩]))
        go_wp2
        go_ret3
        exact ⟨by rw [HA.out]; rfl, rfl⟩
      · by_cases hk9' : k = 9
        · subst hk9'
          have h1 : ¬ (1 : Int) < (u : Int) := by omega
          have hUe : U = 9223372036854775808 := hU.out
          subst hUe
          by_cases hu0 : u = 0
          · subst hu0
            have HA := Lib.hid (HR.out 0 0 5 (by rw [HF.out, readFrom, if_neg (by omega), if_neg (by omega), if_pos (by omega)]))
            go_wp2
            go_ret3
            exact ⟨by rw [HA.out]; rfl, rfl⟩
          · obtain rfl : u = 1 := by omega
            have HA := Lib.hid (HR.out (y + 9223372036854775808) 10 0 (by rw [HF.out, readFrom, if_neg (by omega), if_neg (by omega), if_neg (by omega), Nat.one_mul]))
            clear HF HR
            go_wp2
            go_ret3
            exact ⟨by rw [HA.out, if_pos trivial]; rfl, rfl⟩
        · have hk9i : ¬ (k : Int) = 9 := by omega
          have hU3 : U ≤ 72057594037927936 := by rw [hU.out]; exact pow_seven (by omega)
          obtain ⟨hp, hp2⟩ := add_group y u U hy hU3
          have HP := Lib.hid hp; have HP2 := Lib.hid hp2
          have HE : Hid (∀ c : Nat, y + c * U = y + c * 2 ^ (7 * k)) := fun c => by rw [← hU.out]
          have HU1 : Hid (U * 128 = 2 ^ (7 * (k + 1))) := by show _ = _; rw [hU.out, show 7 * (k + 1) = 7 * k + 7 from by omega, Nat.pow_add]
          clear h9 hp hp2
          by_cases hbig : 128 ≤ u
          · have hbig' : ¬ (u : Int) < 128 := by omega
            have HD : Hid (readFrom (l.drop o) 0 0 = readFrom (l.drop (o + (k + 1))) (k + 1) (y + u % 128 * U)) := by show _ = _; rw [HF.out, readFrom, if_neg (by omega), if_pos hbig, HE.out]
            go_wp2
            go_round
            case rel => exact ⟨k + 1, _, U * 128, by go_num, by rw [HP.out], by go_num, by omega, by omega, HP2.out, HU1.out, by omega, HD.out⟩
            case measure => simp [intOf]; omega
          · have hbig' : (u : Int) < 128 := by omega
            clear hU2
            by_cases h0 : u = 0 ∧ 0 < k
            · obtain ⟨rfl, hk0⟩ := h0
              have hk0' : (0 : Int) < (k : Int) := by omega
              have HA := Lib.hid (HR.out 0 0 5 (by rw [HF.out, readFrom, if_neg (by omega), if_neg (by omega), if_pos ⟨rfl, hk0⟩]))
              go_wp2
              go_ret3
              exact ⟨by rw [HA.out]; rfl, rfl⟩
            · have HA := Lib.hid (HR.out (y + u * U) (k + 1) 0 (by rw [HF.out, readFrom, if_neg (by omega), if_neg hbig, if_neg h0, HE.out]))
              have HU : Hid (u % 128 = u) := by show _ = _; omega
              by_cases hu0 : u = 0
              · subst hu0
                obtain rfl : k = 0 := by omega
                obtain rfl : U = 1 := by simpa using hU.out
                obtain rfl : y = 0 := by omega
                rw [Nat.add_zero] at hcell
                clear HP HP2 HE HU1
                go_wp2
                go_ret3
                exact ⟨by rw [HA.out]; simp, rfl⟩
              · have hu0' : ¬ (u : Int) = 0 := by omega
                go_wp2
                go_ret3
                exact ⟨by rw [HA.out, HP.out, HU.out]; simp; omega, rfl⟩
    · have hlt' : (l.length : Int) ≤ (o : Int) + (k : Int) := by omega
      have HA := Lib.hid (HR.out 0 0 3 (by rw [hrf.out, List.drop_eq_nil_of_le (by omega), readFrom]))
      go_wp2
      go_ret3
      exact ⟨by rw [HA.out]; rfl, rfl⟩

theorem ref_get (v : Value) (l : List Nat) (o : Int) (w : World) (h : Rd w 1 v l.length (u8s l)) (hl : ∀ c ∈ l, c < 256) :
    Calls Try.prog 79 #[v, .int .i64 o] w fun e w' => e = .returned (.tuple #[.int .u64 ((readAt l o).1 : Int), .int .i64 (readAt l o).2.1, .int .i64 ((readAt l o).2.2 : Int)]) ∧ w = w' := by
  by_cases ho : o < 0 ∨ (l.length : Int) < o
  · rw [show readAt l o = (0, 0, 2) by rw [readAt, if_pos ho]]
    exact ref_get_arg v l o w h ho
  · obtain ⟨k, rfl⟩ : ∃ k : Nat, o = k := ⟨o.toNat, by omega⟩
    exact ref_get_in v l k w h (by omega) hl
end Go.Proofs.Ytpjfhakmffcolaa

end

section
/- Layer 4: the reference's reader: Fail, End. -/
set_option linter.unusedVariables false
namespace Go.Proofs.Ytpjfhakmffcolaa
open Go Go.RowKit

/-- The reference's reader at block q: its bytes, its offset, its error. -/
structure RRd (w : World) (q : Nat) (v : Value) (B : List Nat) (a : Nat) (e : Int) : Prop where
  blk : Blk w q [v, .int .i64 (a : Int), .int .i64 e]
  rd : Rd w 1 v B.length (u8s B)
  ne : B ≠ [] → ∀ k, v.ownBlock = some k → k ≠ q
theorem u8s_ne {B : List Nat} (h : u8s B ≠ []) : B ≠ [] := fun e => h (by subst e; rfl)
theorem RRd.mods' {S : Nat → Prop} {w w' : World} {q : Nat} {v : Value} {B : List Nat} {a : Nat} {e : Int} (h : RRd w q v B a e) (hm : Mods S w w') (hq : ¬ S q) (hv : B ≠ [] → ∀ k, v.ownBlock = some k → ¬ S k) : RRd w' q v B a e := ⟨hm.blk h.blk hq, h.rd.mods' hm (fun e => hv (u8s_ne e)), h.ne⟩
theorem RRd.mods {S : Nat → Prop} {w w' : World} {q : Nat} {v : Value} {B : List Nat} {a : Nat} {e : Int} (h : RRd w q v B a e) (hm : Mods S w w') (hq : ¬ S q) (hv : ∀ k, v.ownBlock = some k → ¬ S k) : RRd w' q v B a e := h.mods' hm hq (fun _ => hv)
theorem RRd.below {w w' : World} {q : Nat} {v : Value} {B : List Nat} {a : Nat} {e : Int} (h : RRd w q v B a e) (hb : Below w.heap.size w w') : RRd w' q v B a e := h.mods (Mods.of_below hb (fun _ => False)) (fun h => h) (fun _ _ h => h)
theorem RRd.drew {w : World} {q : Nat} {v : Value} {B : List Nat} {a : Nat} {e : Int} (h : RRd w q v B a e) : RRd w.drew q v B a e := h.mods (Mods.drew (fun _ => False) w) (fun h => h) (fun _ _ h => h)
theorem RRd.drewN {w : World} {q : Nat} {v : Value} {B : List Nat} {a : Nat} {e : Int} (h : RRd w q v B a e) (n : Nat) : RRd (w.drewN n) q v B a e := h.mods (Mods.drewN (fun _ => False) w n) (fun h => h) (fun _ _ h => h)
theorem RRd.cells {w : World} {q : Nat} {v : Value} {B : List Nat} {a : Nat} {e : Int} (h : RRd w q v B a e) : w.cell? ⟨q, 0, none⟩ = some v ∧ w.cell? ⟨q, 1, none⟩ = some (.int .i64 (a : Int)) ∧ w.cell? ⟨q, 2, none⟩ = some (.int .i64 e) ∧ w.frozen? ⟨q, 1, none⟩ = false ∧ w.frozen? ⟨q, 2, none⟩ = false :=
  ⟨by rw [h.blk.cell]; rfl, by rw [h.blk.cell]; rfl, by rw [h.blk.cell]; rfl, h.blk.free 1, h.blk.free 2⟩
theorem RRd.setErr {w : World} {q : Nat} {v : Value} {B : List Nat} {a : Nat} {e : Int} (h : RRd w q v B a e) (x : Int) : RRd (w.setCell ⟨q, 2, none⟩ (.int .i64 x)) q v B a x :=
  ⟨h.blk.set 2 _, h.rd.mods' (Mods.set (fun j => j = q) _ _ _ (fun _ => rfl)) (fun e => h.ne (u8s_ne e)), h.ne⟩
theorem RRd.setAt {w : World} {q : Nat} {v : Value} {B : List Nat} {a : Nat} {e : Int} (h : RRd w q v B a e) (b : Nat) : RRd (w.setCell ⟨q, 1, none⟩ (.int .i64 (b : Int))) q v B b e :=
  ⟨h.blk.set 1 _, h.rd.mods' (Mods.set (fun j => j = q) _ _ _ (fun _ => rfl)) (fun e => h.ne (u8s_ne e)), h.ne⟩
theorem mods_set (w : World) (q i : Nat) (u : Value) : Mods (fun k => k = q) w (w.setCell ⟨q, i, none⟩ u) := Mods.set _ _ _ _ (fun _ => rfl)

/-- What a read leaves: its value and the new offset, or zero and the error. -/
def Got {α : Type} (o : Out α) (val : α → Value) (z : Value) (inv : Nat → Int → Prop) (a : Nat) (en : Ending) : Prop := match o with
  | .ok x b => en = .returned (val x) ∧ inv b 0
  | .bad e => en = .returned z ∧ inv a (e : Int)

theorem rr_fail (q : Nat) (v : Value) (B : List Nat) (a : Nat) (e x : Int) (w : World) (h : RRd w q v B a e) :
    Calls Try.prog 55 #[.pointer (some ⟨q, 0, none⟩), .int .i64 x] w fun en w' => en = .returned (.tuple #[]) ∧ RRd w' q v B a (if e = 0 then x else e) ∧ Mods (fun k => k = q) w w' := by
  obtain ⟨c0, c1, c2, f1, f2⟩ := h.cells
  have H := Lib.hid h
  clear h
  by_cases he : e = 0
  · subst he
    go_enter Try.func55, Try.ntmps55
    go_wp2
    go_end0
    exact ⟨rfl, by simpa using H.out.setErr x, mods_set _ _ _ _⟩
  · go_enter Try.func55, Try.ntmps55
    go_wp2
    go_end0
    exact ⟨rfl, by simpa [he] using H.out, Mods.refl _ _⟩

set_option maxHeartbeats 400000 in
theorem rr_end (q : Nat) (v : Value) (B : List Nat) (a : Nat) (e : Int) (w : World) (h : RRd w q v B a e) :
    Calls Try.prog 57 #[.pointer (some ⟨q, 0, none⟩)] w fun en w' => en = .returned (.int .i64 (if e = 0 ∧ a < B.length then 4 else e)) ∧ ∃ n, w' = w.drewN n := by
  obtain ⟨c0, c1, c2, f1, f2⟩ := h.cells
  obtain ⟨p, c, hv⟩ := h.rd.shape
  subst hv
  clear h
  by_cases he : e = 0
  · subst he
    by_cases hlt : a < B.length
    · have hlt2 : (a : Int) < (B.length : Int) := by omega
      have HE : Hid ((if (0 : Int) = 0 ∧ a < B.length then (4 : Int) else 0) = 4) := if_pos ⟨rfl, hlt⟩
      rw [HE.out]
      go_enter Try.func57, Try.ntmps57
      go_wp2_with fail
      go_quiet (fail)
      go_wp2_with fail
      go_ret
      exact ⟨rfl, _, rfl⟩
    · have hlt2 : ¬ (a : Int) < (B.length : Int) := by omega
      have HE : Hid ((if (0 : Int) = 0 ∧ a < B.length then (4 : Int) else 0) = 0) := if_neg (fun h => hlt h.2)
      rw [HE.out]
      go_enter Try.func57, Try.ntmps57
      go_wp2_with fail
      go_quiet (fail)
      go_wp2_with fail
      go_ret
      exact ⟨rfl, _, rfl⟩
  · have HE : Hid ((if e = 0 ∧ a < B.length then (4 : Int) else e) = e) := if_neg (fun h => he h.1)
    rw [HE.out]
    have heb : (e == 0) = false := by rw [beq_eq_false_iff_ne]; exact he
    go_enter Try.func57, Try.ntmps57
    go_wp2_with fail
    go_quiet (fail)
    go_wp2_with fail
    go_ret
    exact ⟨rfl, _, rfl⟩
end Go.Proofs.Ytpjfhakmffcolaa

end

section
/- Layer 4: the program's reader: At, Err, End, Fail, of a reader and of nil. -/
set_option linter.unusedVariables false
set_option maxRecDepth 20000
namespace Go.Proofs.Ytpjfhakmffcolaa
open Go Go.RowKit

theorem rd_at (q : Nat) (v : Value) (B : List Nat) (a : Nat) (e : Int) (w : World) (h : RRd w q v B a e) :
    Calls Try.prog 97 #[.pointer (some ⟨q, 0, none⟩)] w fun en w' => en = .returned (.int .i64 (a : Int)) ∧ w' = w := by
  obtain ⟨c0, c1, c2, f1, f2⟩ := h.cells
  clear h
  go_enter Try.func97, Try.ntmps97
  go_wp2
  go_ret
  exact ⟨rfl, rfl⟩
theorem nil_at (w : World) : Calls Try.prog 97 #[.pointer none] w fun en w' => en = .returned (.int .i64 0) ∧ w' = w := by
  go_enter Try.func97, Try.ntmps97
  go_wp2
  go_ret
  exact ⟨rfl, rfl⟩
theorem rd_err (q : Nat) (v : Value) (B : List Nat) (a : Nat) (e : Int) (w : World) (h : RRd w q v B a e) :
    Calls Try.prog 77 #[.pointer (some ⟨q, 0, none⟩)] w fun en w' => en = .returned (.int .i64 e) ∧ w' = w := by
  obtain ⟨c0, c1, c2, f1, f2⟩ := h.cells
  clear h
  go_enter Try.func77, Try.ntmps77
  go_wp2
  go_ret
  exact ⟨rfl, rfl⟩
theorem nil_err (w : World) : Calls Try.prog 77 #[.pointer none] w fun en w' => en = .returned (.int .i64 1) ∧ w' = w := by
  go_enter Try.func77, Try.ntmps77
  go_wp2
  go_ret
  exact ⟨rfl, rfl⟩
theorem rd_fail (q : Nat) (v : Value) (B : List Nat) (a : Nat) (e x : Int) (w : World) (h : RRd w q v B a e) :
    Calls Try.prog 75 #[.pointer (some ⟨q, 0, none⟩), .int .i64 x] w fun en w' => en = .returned (.tuple #[]) ∧ RRd w' q v B a (if e = 0 then x else e) ∧ Mods (fun k => k = q) w w' := by
  obtain ⟨c0, c1, c2, f1, f2⟩ := h.cells
  have H := Lib.hid h
  clear h
  by_cases he : e = 0
  · subst he
    go_enter Try.func75, Try.ntmps75
    go_wp2
    go_end0
    exact ⟨rfl, by simpa using H.out.setErr x, mods_set _ _ _ _⟩
  · have heb : (e == 0) = false := by rw [beq_eq_false_iff_ne]; exact he
    go_enter Try.func75, Try.ntmps75
    go_wp2
    go_end0
    exact ⟨rfl, by simpa [he] using H.out, Mods.refl _ _⟩
theorem nil_fail (x : Int) (w : World) : Calls Try.prog 75 #[.pointer none, .int .i64 x] w fun en w' => en = .returned (.tuple #[]) ∧ w' = w := by
  go_enter Try.func75, Try.ntmps75
  go_wp2
  go_end0
  exact ⟨rfl, rfl⟩
set_option maxHeartbeats 400000 in
theorem rd_end (q : Nat) (v : Value) (B : List Nat) (a : Nat) (e : Int) (w : World) (h : RRd w q v B a e) :
    Calls Try.prog 51 #[.pointer (some ⟨q, 0, none⟩)] w fun en w' => en = .returned (.int .i64 (if e = 0 ∧ a < B.length then 4 else e)) ∧ ∃ n, w' = w.drewN n := by
  have HG := Lib.hid (rd_err q v B a e w h)
  obtain ⟨c0, c1, c2, f1, f2⟩ := h.cells
  obtain ⟨p, c, hv⟩ := h.rd.shape
  subst hv
  clear h
  by_cases he : e = 0
  · subst he
    by_cases hlt : a < B.length
    · have hlt2 : (a : Int) < (B.length : Int) := by omega
      have HE : Hid ((if (0 : Int) = 0 ∧ a < B.length then (4 : Int) else 0) = 4) := if_pos ⟨rfl, hlt⟩
      rw [HE.out]
      go_enter Try.func51, Try.ntmps51
      go_wp2_with fail
      refine HG.out.mono ?_
      rintro en w1 ⟨rfl, rfl⟩
      go_wp2_with fail
      go_quiet (fail)
      go_wp2_with fail
      go_ret
      exact ⟨rfl, _, rfl⟩
    · have hlt2 : ¬ (a : Int) < (B.length : Int) := by omega
      have HE : Hid ((if (0 : Int) = 0 ∧ a < B.length then (4 : Int) else 0) = 0) := if_neg (fun h => hlt h.2)
      rw [HE.out]
      go_enter Try.func51, Try.ntmps51
      go_wp2_with fail
      refine HG.out.mono ?_
      rintro en w1 ⟨rfl, rfl⟩
      go_wp2_with fail
      go_quiet (fail)
      go_wp2_with fail
      go_ret
      exact ⟨rfl, _, rfl⟩
  · have HE : Hid ((if e = 0 ∧ a < B.length then (4 : Int) else e) = e) := if_neg (fun h => he h.1)
    rw [HE.out]
    have heb : (e == 0) = false := by rw [beq_eq_false_iff_ne]; exact he
    go_enter Try.func51, Try.ntmps51
    go_wp2_with fail
    refine HG.out.mono ?_
    rintro en w1 ⟨rfl, rfl⟩
    go_wp2_with fail
    go_ret
    exact ⟨rfl, 0, rfl⟩
theorem nil_end (w : World) : Calls Try.prog 51 #[.pointer none] w fun en w' => en = .returned (.int .i64 1) ∧ w' = w := by
  have HG := Lib.hid (nil_err w)
  go_enter Try.func51, Try.ntmps51
  go_wp2_with fail
  refine HG.out.mono ?_
  rintro en w1 ⟨rfl, rfl⟩
  go_wp2_with fail
  go_ret
  exact ⟨rfl, rfl⟩
end Go.Proofs.Ytpjfhakmffcolaa

end

section
/- A slice between two bounds. No program in sight. -/
set_option linter.unusedVariables false
namespace Go.Proofs.Ytpjfhakmffcolaa
open Go Go.RowKit

/-- 's[i:k]'. -/
theorem wpList_fromTo {P : Program} {t e : TypeId} {sz bytes : Nat} (hE : Elem P t e sz bytes) (w : World) (v : Value) (n i k : Nat) (vs : List Value) (h0 : Rd w sz v n vs) (hi : i ≤ k) (hk : k ≤ n)
    {ops : Array Oper} {rest : List Oper} {o : Oper} {a : Act} {Q : Exit → Act → World → Prop} (hgd : Region.wanted o (yielded ops a.tmps) = true) (s x y : Operand) (ho : o.op = .slice t s (some x) (some y) none)
    (hs : a.eval s = v) (hx : a.eval x = .int .i64 (i : Int)) (hy : a.eval y = .int .i64 (k : Int))
    (h : ∀ p c, Rd w sz (.slice p (k - i) c) (k - i) ((vs.take (k * sz)).drop (i * sz)) → wpList P ops Q rest (a.put o.dst (.slice p (k - i) c)) w) : wpList P ops Q (o :: rest) a w := by
  obtain ⟨p, c, hv⟩ := h0.shape
  subst hv
  have hnc : n ≤ c := by obtain ⟨_, _, e, _, h, _⟩ := h0; cases e; exact h
  have hr := exec_fromTo hE w p n c i k hi (by omega) s x y ho hs hx hy
  have hR := h0.fromTo i k hi hk
  obtain ⟨p2, c2, hs2⟩ := hR.shape
  rw [hs2] at hr hR
  refine BigFrame.wpList_want hgd fun K hK => ?_
  unfold Oper.wp
  rw [hr]
  exact hK _ _ (h _ _ hR)
end Go.Proofs.Ytpjfhakmffcolaa

end

section
/- Layer 4: what a function that reads at an offset gives back; a slice between two bounds. -/
set_option linter.unusedVariables false
namespace Go.Proofs.Ytpjfhakmffcolaa
open Go Go.RowKit


/-- What a function that reads at an offset gives back: a value, the offset behind it and OK, or zeros and the error. -/
def Tup {α : Type} (o : Out α) (val : α → Value) (z : Value) : Value := match o with
  | .ok x b => .tuple #[val x, .int .i64 (b : Int), .int .i64 0]
  | .bad e => .tuple #[z, .int .i64 0, .int .i64 (e : Int)]

end Go.Proofs.Ytpjfhakmffcolaa

end

section
/- Layer 2: Get. -/
set_option linter.unusedVariables false
namespace Go.Proofs.Ytpjfhakmffcolaa
open Go Go.RowKit

set_option maxHeartbeats 400000 in
theorem get_arg (v : Value) (l : List Nat) (o : Int) (w : World) (h : Rd w 1 v l.length (u8s l)) (ho : o < 0 ∨ (l.length : Int) < o) :
    Calls Try.prog 117 #[v, .int .i64 o] w fun e w' => e = .returned (.tuple #[.int .u64 0, .int .i64 0, .int .i64 2]) ∧ w = w' := by
  obtain ⟨p, c, hv⟩ := h.shape
  subst hv
  clear h
  by_cases hneg : o < 0
  · clear ho
    go_enter Try.func117, Try.ntmps117
    go_wp2_with fail
    go_ret3
    exact ⟨rfl, rfl⟩
  · have ho' : (l.length : Int) < o := by omega
    clear ho
    go_enter Try.func117, Try.ntmps117
    go_wp2_with fail
    go_ret3
    exact ⟨rfl, rfl⟩

set_option maxHeartbeats 400000 in
theorem get_in (v : Value) (l : List Nat) (o : Nat) (w : World) (h : Rd w 1 v l.length (u8s l)) (ho : o ≤ l.length) (hl : ∀ c ∈ l, c < 256) :
    Calls Try.prog 117 #[v, .int .i64 (o : Int)] w fun e w' => e = .returned (.tuple #[.int .u64 ((readAt l o).1 : Int), .int .i64 (readAt l o).2.1, .int .i64 ((readAt l o).2.2 : Int)]) ∧ w = w' := by
  obtain ⟨p, c, hv⟩ := h.shape
  subst hv
  have hle : ¬ (l.length : Int) < (o : Int) := by omega
  have H := Lib.hid h; clear h
  go_enter Try.func117, Try.ntmps117
  go_wp2_with (refine wpList_from Try.elemU8 _ _ _ o _ H.out ho rfl _ _ rfl rfl rfl ?_; intro p2 c2 h2)
  have H2 : Hid (Rd w 1 (.slice p2 (l.length - o) c2) (l.drop o).length (u8s (l.drop o))) := by
    show Rd _ _ _ _ _
    rw [List.length_drop]
    simpa [u8s, List.map_drop] using h2
  have HM : Hid (∀ c ∈ l.drop o, c < 256) := fun c hc => hl c (List.mem_of_mem_drop hc)
  have HR : Hid (∀ a n e, readFrom (l.drop o) 0 0 = (a, n, e) → readAt l o = (a, (if e = 0 then (o : Int) + n else 0), e)) := fun a n e h => readAt_in ho h
  have hom : o + (l.drop o).length ≤ maxLen := by have := H.out.le; rw [List.length_drop]; omega
  have hml : l.length - o = (l.drop o).length := by simp
  rw [hml] at H2 ⊢
  clear h2 hl H hml
  generalize l.drop o = d at *
  go_loop [7, 22] (fun x i => ∃ (k y : Nat), i = .int .i64 (k : Int) ∧ x = .int .u64 (y : Int) ∧ k ≤ d.length ∧ k ≤ 9 ∧ y < 2 ^ (7 * k) ∧ Hid (readFrom d 0 0 = readFrom (d.drop k) k y)) (fun _ i => d.length - (intOf i).toNat)
  case atStart => exact ⟨0, 0, rfl, rfl, by omega, by omega, by simp, rfl⟩
  case round =>
    obtain ⟨k, y, rfl, rfl, hk, hk9, hy, hrf⟩ := hrel
    by_cases hlt : k < d.length
    · have hlt' : (k : Int) < (d.length : Int) := by omega
      obtain ⟨b, off, c', e, _, _, hc⟩ := H2.out.at (fun e => by have := congrArg List.length e; rw [u8s_length] at this; simp at this; subst this; simp at hlt)
      simp only [Value.slice.injEq] at e
      obtain ⟨rfl, _, rfl⟩ := e
      obtain ⟨u, hu⟩ : ∃ u, d[k] = u := ⟨_, rfl⟩
      have hcell : w.cell? ⟨b, off + k, none⟩ = some (.int .u8 (u : Int)) := by rw [← hu]; exact hc k _ (u8s_get _ k hlt)
      have hu256 : u < 256 := hu ▸ HM.out _ (List.getElem_mem hlt)
      have hdrop : d.drop k = u :: d.drop (k + 1) := by rw [← hu]; exact List.drop_eq_getElem_cons hlt
      have HF : Hid (readFrom d 0 0 = readFrom (u :: d.drop (k + 1)) k y) := by show _ = _; rw [← hdrop]; exact hrf.out
      clear hc hdrop hrf hu
      by_cases h9 : k = 9 ∧ 1 < u
      · obtain ⟨rfl, h1⟩ := h9
        have h1' : (1 : Int) < (u : Int) := by omega
        have HA := Lib.hid (HR.out 0 0 6 (by rw [HF.out, readFrom, if_pos ⟨rfl, h1⟩]))
        go_wp2
        go_ret3
        exact ⟨by rw [HA.out]; rfl, rfl⟩
      · have HY := Lib.hid hy
        clear hy
        by_cases hk9' : k = 9
        · subst hk9'
          have h1 : ¬ (1 : Int) < (u : Int) := by omega
          by_cases hu0 : u = 0
          · subst hu0
            have HA := Lib.hid (HR.out 0 0 5 (by rw [HF.out, readFrom, if_neg (by omega), if_neg (by omega), if_pos (by omega)]))
            go_wp2
            go_ret3
            exact ⟨by rw [HA.out]; rfl, rfl⟩
          · obtain rfl : u = 1 := by omega
            have HA := Lib.hid (HR.out (y + 2 ^ (7 * 9)) 10 0 (by rw [HF.out, readFrom, if_neg (by omega), if_neg (by omega), if_neg (by omega), Nat.one_mul]))
            have HW : Hid (wrap64 (wrap64 ((o : Int) + 9) + 1) = (o : Int) + 10) := by show _ = _; unfold maxLen at hom; simp only [wrap64]; omega
            have HV := Lib.hid (or_top y HY.out)
            clear HY HF HR
            generalize 2 ^ (7 * 9) = T at HA HV
            go_wp2
            go_ret3
            exact ⟨by rw [HA.out, HV.out, HW.out, if_pos trivial]; rfl, rfl⟩
        · have hk9i : ¬ (k : Int) = 9 := by omega
          have hkb : (0 : Int) ≤ 7 * (k : Int) ∧ 7 * (k : Int) < 64 := by omega
          have HO := Lib.hid (or_shift y u k HY.out (by omega) (shift_small (by omega)))
          have HN := Lib.hid (next_small (u := u) HY.out)
          clear h9
          by_cases hbig : 128 ≤ u
          · have hbig' : (128 : Int) ≤ (u : Int) := by omega
            have HD : Hid (readFrom d 0 0 = readFrom (d.drop (k + 1)) (k + 1) (y + u % 128 * 2 ^ (7 * k))) := by show _ = _; rw [HF.out, readFrom, if_neg (by omega), if_pos hbig]
            go_wp2
            go_round
            case rel => exact ⟨k + 1, _, by go_num, by rw [HO.out], by omega, by omega, HN.out, HD⟩
            case measure => simp [intOf]; omega
          · have hbig' : ¬ (128 : Int) ≤ (u : Int) := by omega
            by_cases h0 : u = 0 ∧ 0 < k
            · obtain ⟨rfl, hk0⟩ := h0
              have hk0' : (0 : Int) < (k : Int) := by omega
              have HA := Lib.hid (HR.out 0 0 5 (by rw [HF.out, readFrom, if_neg (by omega), if_neg (by omega), if_pos ⟨rfl, hk0⟩]))
              go_wp2
              go_ret3
              exact ⟨by rw [HA.out]; rfl, rfl⟩
            · have HA := Lib.hid (HR.out (y + u * 2 ^ (7 * k)) (k + 1) 0 (by rw [HF.out, readFrom, if_neg (by omega), if_neg hbig, if_neg h0]))
              by_cases hu0 : u = 0
              · subst hu0
                obtain rfl : k = 0 := by omega
                obtain rfl : y = 0 := by simpa using HY.out
                rw [Nat.add_zero] at hcell
                have hs : (o : Int) + 1 ≤ 9223372036854775807 := by unfold maxLen at hom; omega
                go_wp2
                go_ret3
                exact ⟨by rw [HA.out]; simp; rfl, rfl⟩
              · have hu0' : ¬ (u : Int) = 0 := by omega
                have hs : (o : Int) + k + 1 ≤ 9223372036854775807 := by unfold maxLen at hom; omega
                have HU : Hid (u % 128 = u) := by show _ = _; omega
                go_wp2
                go_ret3
                exact ⟨by rw [HA.out, HO.out, HU.out]; simp; omega, rfl⟩
    · have hlt' : ¬ (k : Int) < (d.length : Int) := by omega
      have HA := Lib.hid (HR.out 0 0 3 (by rw [hrf.out, List.drop_eq_nil_of_le (by omega), readFrom]))
      go_wp2
      go_ret3
      exact ⟨by rw [HA.out]; rfl, rfl⟩

theorem readAt_arg {l : List Nat} {o : Int} (h : o < 0 ∨ (l.length : Int) < o) : readAt l o = (0, 0, 2) := by rw [readAt, if_pos h]
theorem get_any (v : Value) (l : List Nat) (o : Int) (w : World) (h : Rd w 1 v l.length (u8s l)) (hl : ∀ c ∈ l, c < 256) :
    Calls Try.prog 117 #[v, .int .i64 o] w fun e w' => e = .returned (.tuple #[.int .u64 ((readAt l o).1 : Int), .int .i64 (readAt l o).2.1, .int .i64 ((readAt l o).2.2 : Int)]) ∧ w = w' := by
  by_cases ho : o < 0 ∨ (l.length : Int) < o
  · rw [readAt_arg ho]
    exact get_arg v l o w h ho
  · obtain ⟨k, rfl⟩ : ∃ k : Nat, o = k := ⟨o.toNat, by omega⟩
    exact get_in v l k w h (by omega) hl

theorem readAt_lt {l : List Nat} (hl : ∀ c ∈ l, c < 256) (o : Int) : (readAt l o).1 < 18446744073709551616 := by
  rw [readAt]
  split
  · decide
  · exact readFrom_lt (fun c hc => hl c (List.mem_of_mem_drop hc))

end Go.Proofs.Ytpjfhakmffcolaa

end

section
/- Layer 4: getUint. -/
set_option linter.unusedVariables false
set_option maxRecDepth 20000
namespace Go.Proofs.Ytpjfhakmffcolaa
open Go Go.RowKit

set_option maxHeartbeats 400000 in
theorem get_uint (v : Value) (B : List Nat) (a most : Nat) (w : World) (h : Rd w 1 v B.length (u8s B)) (hB : ∀ c ∈ B, c < 256) (ha : a ≤ B.length) :
    Calls Try.prog 115 #[v, .int .i64 (a : Int), .int .u64 (most : Int)] w fun en w' => en = .returned (Tup (outUint B a most) (fun c => .int .u64 (c : Int)) (.int .u64 0)) ∧ w' = w := by
  obtain ⟨p, c, hv⟩ := h.shape
  subst hv
  have hcs := outUint_cases hB ha most
  have HG := Lib.hid (calls_flip (get_any (.slice p B.length c) B (a : Int) w h hB))
  clear h hB
  go_enter Try.func115, Try.ntmps115
  go_wp2_with fail
  refine HG.out.mono ?_
  rintro en w1 ⟨rfl, rfl⟩
  rcases hcs with ⟨e, he, hr, ho⟩ | ⟨x, to, hr, hto, htl, hx, ho⟩
  · rw [hr]
    have HO := Lib.hid ho
    have heb : ((e : Int) == 0) = false := by rw [beq_eq_false_iff_ne]; omega
    clear hr ho HG
    go_wp2_with fail
    go_ret3
    exact ⟨by rw [HO.out]; rfl, rfl⟩
  · rw [hr]
    have HO := Lib.hid ho
    clear hr ho HG
    by_cases hlt : most < x
    · have hlt' : (most : Int) < (x : Int) := by omega
      rw [if_pos hlt] at HO
      go_wp2_with fail
      go_ret3
      exact ⟨by rw [HO.out]; rfl, rfl⟩
    · have hlt' : ¬ (most : Int) < (x : Int) := by omega
      rw [if_neg hlt] at HO
      go_wp2_with fail
      go_ret3
      exact ⟨by rw [HO.out]; rfl, rfl⟩
end Go.Proofs.Ytpjfhakmffcolaa

end

section
/- Layer 4: read of a number. -/
set_option linter.unusedVariables false
set_option maxRecDepth 20000
namespace Go.Proofs.Ytpjfhakmffcolaa
open Go Go.RowKit

theorem lit_uint (v : Value) (B : List Nat) (a most : Nat) (x : Nat) (w : World) (h : Rd w 1 v B.length (u8s B)) (hB : ∀ c ∈ B, c < 256) (ha : a ≤ B.length) (hx : w.cell? ⟨x, 0, none⟩ = some (.int .u64 (most : Int))) :
    Calls Try.prog 114 #[v, .int .i64 (a : Int), .pointer (some ⟨x, 0, none⟩)] w fun en w' => en = .returned (Tup (outUint B a most) (fun c => .int .u64 (c : Int)) (.int .u64 0)) ∧ w' = w := by
  have HG := Lib.hid (get_uint v B a most w h hB ha)
  obtain ⟨p, c, hv⟩ := h.shape
  subst hv
  clear h hB
  generalize outUint B a most = o at *
  cases o with
  | bad e =>
    go_enter Try.func114, Try.ntmps114
    go_wp2_with fail
    refine HG.out.mono ?_
    rintro en w1 ⟨rfl, rfl⟩
    unfold Tup
    go_wp2_with fail
    go_ret3
    exact ⟨rfl, rfl⟩
  | ok y b =>
    go_enter Try.func114, Try.ntmps114
    go_wp2_with fail
    refine HG.out.mono ?_
    rintro en w1 ⟨rfl, rfl⟩
    unfold Tup
    go_wp2_with fail
    go_ret3
    exact ⟨rfl, rfl⟩

set_option maxHeartbeats 2000000 in
/-- 'read' of a number. -/
theorem read_uint (x : Nat) (o : Out Nat) (ho : ∀ e, o = .bad e → e ≠ 0) (q : Nat) (v : Value) (B : List Nat) (a : Nat) (w : World) (h : RRd w q v B a 0)
    (hget : ∀ n, Calls Try.prog 114 #[v, .int .i64 (a : Int), .pointer (some ⟨x, 0, none⟩)] (w.drewN n) fun en w' => en = .returned (Tup o (fun c => .int .u64 (c : Int)) (.int .u64 0)) ∧ w' = w.drewN n) :
    Calls Try.prog 113 #[.pointer (some ⟨q, 0, none⟩), .func (.func 114) #[] #[.pointer (some ⟨x, 0, none⟩)]] w fun en w' => Mods (fun k => k = q) w w' ∧ Got o (fun c => .int .u64 (c : Int)) (.int .u64 0) (fun b e => RRd w' q v B b e) a en := by
  have HE := Lib.hid (rd_err q v B a 0 w h)
  have H := Lib.hid h
  have HG := Lib.hid hget
  obtain ⟨c0, c1, c2, f1, f2⟩ := h.cells
  obtain ⟨p, c, hv⟩ := h.rd.shape
  subst hv
  clear h hget
  cases o with
  | bad e =>
    have he : e ≠ 0 := ho e rfl
    have heb : ((e : Int) == 0) = false := by rw [beq_eq_false_iff_ne]; omega
    unfold Tup at HG
    clear ho
    go_enter Try.func113, Try.ntmps113
    go_wp2_with fail
    refine HE.out.mono ?_
    rintro en w1 ⟨rfl, rfl⟩
    clear HE
    go_wp2_with fail
    go_quiet ((go_at_call 114; exact Calls.quiet_of_same (HG.out _)))
    have H1 := Lib.hid (H.out.drewN nq)
    have HM1 : Hid (Mods (fun k => k = q) w1 (w1.drewN nq)) := Mods.drewN _ _ _
    generalize w1.drewN nq = w2 at *
    clear HG H c0 c1 c2 f1 f2
    go_wp2_with fail
    refine (rd_fail q _ B a 0 (e : Int) _ H1.out).mono ?_
    rintro en w3 ⟨rfl, hR, hm⟩
    rw [if_pos rfl] at hR
    have HM := Lib.hid (HM1.out.trans hm (fun _ _ e => e))
    have HR := Lib.hid hR
    clear hR hm
    go_wp2_with fail
    go_ret
    exact ⟨HM.out, rfl, HR.out⟩
  | ok y b =>
    unfold Tup at HG
    clear ho
    go_enter Try.func113, Try.ntmps113
    go_wp2_with fail
    refine HE.out.mono ?_
    rintro en w1 ⟨rfl, rfl⟩
    clear HE
    go_wp2_with fail
    go_quiet ((go_at_call 114; exact Calls.quiet_of_same (HG.out _)))
    have H1 := Lib.hid (H.out.drewN nq)
    have HM1 : Hid (Mods (fun k => k = q) w1 (w1.drewN nq)) := Mods.drewN _ _ _
    obtain ⟨m0, m1, m2, g1, g2⟩ := H1.out.cells
    generalize w1.drewN nq = w2 at *
    clear HG H c0 c1 c2 f1 f2
    have HS := Lib.hid (H1.out.setAt b)
    have HSM : Hid (Mods (fun k => k = q) w1 (w2.setCell ⟨q, 1, none⟩ (.int .i64 (b : Int)))) := HM1.out.trans (mods_set _ q 1 _) (fun _ _ e => e)
    go_wp2_with fail
    go_ret
    exact ⟨HSM.out, rfl, HS.out⟩

theorem read_uint_err (g : Value) (q : Nat) (v : Value) (B : List Nat) (a : Nat) (e : Int) (he : e ≠ 0) (w : World) (h : RRd w q v B a e) :
    Calls Try.prog 113 #[.pointer (some ⟨q, 0, none⟩), g] w fun en w' => en = .returned (.int .u64 0) ∧ w' = w := by
  have HE := Lib.hid (rd_err q v B a e w h)
  have heb : (e == 0) = false := by rw [beq_eq_false_iff_ne]; exact he
  clear h
  go_enter Try.func113, Try.ntmps113
  go_wp2_with fail
  refine HE.out.mono ?_
  rintro en w1 ⟨rfl, rfl⟩
  go_wp2_with fail
  go_ret
  exact ⟨rfl, rfl⟩

theorem read_uint_nil (g : Value) (w : World) :
    Calls Try.prog 113 #[.pointer none, g] w fun en w' => en = .returned (.int .u64 0) ∧ w' = w := by
  have HE := Lib.hid (nil_err w)
  go_enter Try.func113, Try.ntmps113
  go_wp2_with fail
  refine HE.out.mono ?_
  rintro en w1 ⟨rfl, rfl⟩
  go_wp2_with fail
  go_ret
  exact ⟨rfl, rfl⟩
end Go.Proofs.Ytpjfhakmffcolaa

end

section
/- Layer 4: what a reader gives: no error is 0. No program in sight. -/
set_option linter.unusedVariables false
namespace Go.Proofs.Ytpjfhakmffcolaa
open Go Go.RowKit


theorem outByte_ne {B : List Nat} {a e : Nat} (h : outByte B a = .bad e) : e ≠ 0 := by
  rw [outByte] at h
  split at h
  · cases h
  · cases h; decide

theorem outUint_ne {B : List Nat} {a most e : Nat} (h : outUint B a most = .bad e) : e ≠ 0 := by
  rw [outUint] at h
  split at h
  · split at h
    · cases h; decide
    · cases h
  · cases h; omega

theorem outTake_ne {B : List Nat} {a : Nat} {n : Int} {e : Nat} (h : outTake B a n = .bad e) : e ≠ 0 := by
  rw [outTake] at h
  split at h
  · cases h; decide
  · split at h
    · cases h; decide
    · cases h

theorem outString_ne {B : List Nat} {a : Nat} {n : Int} {e : Nat} (h : outString B a n = .bad e) : e ≠ 0 := by
  rw [outString] at h
  split at h
  · split at h
    · cases h; decide
    · split at h
      · cases h; decide
      · cases h
  · cases h; omega

theorem outSection_ne {B : List Nat} {a id e : Nat} (h : outSection B a id = .bad e) : e ≠ 0 := by
  rw [outSection] at h
  split at h
  · cases h; decide
  · split at h
    · cases h; decide
    · split at h
      · split at h
        · cases h; decide
        · split at h
          · cases h
          · cases h; decide
      · cases h; omega
end Go.Proofs.Ytpjfhakmffcolaa

end

section
/- Layer 4: Uint. -/
set_option linter.unusedVariables false
set_option maxRecDepth 20000
namespace Go.Proofs.Ytpjfhakmffcolaa
open Go Go.RowKit

set_option maxHeartbeats 1000000 in
theorem rd_uint (q : Nat) (v : Value) (B : List Nat) (a : Nat) (most : Nat) (w : World) (h : RRd w q v B a 0) (hB : ∀ c ∈ B, c < 256) (ha : a ≤ B.length) (hz : B.length ≤ 140737488355000) :
    Calls Try.prog 110 #[.pointer (some ⟨q, 0, none⟩), .int .u64 (most : Int)] w fun en w' => Mods (fun k => k = q) w w' ∧ Got (outUint B a most) (fun c => .int .u64 (c : Int)) (.int .u64 0) (fun b e => RRd w' q v B b e) a en := by
  have HB0 : Hid (Below w.heap.size w (w.alloc (.cells #[.int .u64 (most : Int)] 81))) := (Below.refl _ _).alloc (Nat.le_refl _) _
  have HR0 := Lib.hid (h.below HB0.out)
  have hsz : (w.alloc (.cells #[.int .u64 (most : Int)] 81)).heap.size = w.heap.size + 1 := by simp
  have HC : Hid ((w.alloc (.cells #[.int .u64 (most : Int)] 81)).cell? ⟨w.heap.size, 0, none⟩ = some (.int .u64 (most : Int))) := (Blk.new w _ _).cell 0
  have HG := Lib.hid (read_uint w.heap.size (outUint B a most) (fun _ => outUint_ne) q v B a _ HR0.out (fun n => lit_uint v B a most w.heap.size _ (HR0.out.drewN n).rd hB ha HC.out))
  have HM0 : Hid (Mods (fun k => k = q) w (w.alloc (.cells #[.int .u64 (most : Int)] 81))) := Mods.of_below HB0.out _
  have HS0 := Lib.hid hsz
  clear h hB HC hsz
  cases ho : outUint B a most with
  | bad e =>
    rw [ho] at HG
    clear ho
    go_enter Try.func110, Try.ntmps110
    go_wp2_with fail
    refine HG.out.mono ?_
    rintro en w1 ⟨hM, rfl, hR⟩
    have HM := Lib.hid (HM0.out.trans hM (fun _ _ e => e))
    have HR := Lib.hid hR
    clear hM hR HG
    go_wp2_with fail
    go_ret
    exact ⟨HM.out, rfl, HR.out⟩
  | ok y b =>
    rw [ho] at HG
    clear ho
    go_enter Try.func110, Try.ntmps110
    go_wp2_with fail
    refine HG.out.mono ?_
    rintro en w1 ⟨hM, rfl, hR⟩
    have HM := Lib.hid (HM0.out.trans hM (fun _ _ e => e))
    have HR := Lib.hid hR
    clear hM hR HG
    go_wp2_with fail
    go_ret
    exact ⟨HM.out, rfl, HR.out⟩

theorem rd_uint_err (q : Nat) (v : Value) (B : List Nat) (a : Nat) (most : Nat) (e : Int) (he : e ≠ 0) (w : World) (h : RRd w q v B a e) :
    Calls Try.prog 110 #[.pointer (some ⟨q, 0, none⟩), .int .u64 (most : Int)] w fun en w' => en = .returned (.int .u64 0) ∧ Below w.heap.size w w' := by
  have HB0 : Hid (Below w.heap.size w (w.alloc (.cells #[.int .u64 (most : Int)] 81))) := (Below.refl _ _).alloc (Nat.le_refl _) _
  have HG := Lib.hid (read_uint_err (.func (.func 114) #[] #[.pointer (some ⟨w.heap.size, 0, none⟩)]) q v B a e he _ (h.below HB0.out))
  clear h
  go_enter Try.func110, Try.ntmps110
  go_wp2_with fail
  refine HG.out.mono ?_
  rintro en w1 ⟨rfl, rfl⟩
  go_wp2_with fail
  go_ret
  exact ⟨rfl, HB0.out⟩

theorem nil_uint (most : Nat) (w : World) : Calls Try.prog 110 #[.pointer none, .int .u64 (most : Int)] w fun en w' => en = .returned (.int .u64 0) ∧ Below w.heap.size w w' := by
  have HB0 : Hid (Below w.heap.size w (w.alloc (.cells #[.int .u64 (most : Int)] 81))) := (Below.refl _ _).alloc (Nat.le_refl _) _
  have HG := Lib.hid (read_uint_nil (.func (.func 114) #[] #[.pointer (some ⟨w.heap.size, 0, none⟩)]) (w.alloc (.cells #[.int .u64 (most : Int)] 81)))
  go_enter Try.func110, Try.ntmps110
  go_wp2_with fail
  refine HG.out.mono ?_
  rintro en w1 ⟨rfl, rfl⟩
  go_wp2_with fail
  go_ret
  exact ⟨rfl, HB0.out⟩
end Go.Proofs.Ytpjfhakmffcolaa

end

section
/- Layer 4: where a read ends. No program in sight. -/
set_option linter.unusedVariables false
namespace Go.Proofs.Ytpjfhakmffcolaa
open Go Go.RowKit

/-- Where a read ends. -/
def Ends {α : Type} (o : Out α) (n : Nat) : Prop := ∀ x b, o = .ok x b → b ≤ n

theorem ends_byte (B : List Nat) (a : Nat) : Ends (outByte B a) B.length := fun x b h => by
  rw [outByte] at h
  split at h
  · next hc =>
    simp only [Out.ok.injEq] at h
    have := (List.getElem?_eq_some_iff.1 hc).1
    omega
  · cases h

theorem ends_uint {B : List Nat} (hB : ∀ c ∈ B, c < 256) {a : Nat} (ha : a ≤ B.length) (most : Nat) : Ends (outUint B a most) B.length := fun x b h => by
  rcases outUint_cases hB ha most with ⟨e, _, _, ho⟩ | ⟨y, to, _, _, hto, _, ho⟩
  · rw [ho] at h; cases h
  · rw [ho] at h
    split at h
    · cases h
    · simp only [Out.ok.injEq] at h; omega

theorem ends_take (B : List Nat) {a : Nat} (ha : a ≤ B.length) (n : Int) : Ends (outTake B a n) B.length := fun x b h => by
  rw [outTake] at h
  split at h
  · cases h
  · split at h
    · cases h
    · simp only [Out.ok.injEq] at h; omega

theorem ends_string {B : List Nat} (hB : ∀ c ∈ B, c < 256) {a : Nat} (ha : a ≤ B.length) (n : Int) : Ends (outString B a n) B.length := fun x b h => by
  rcases outString_cases hB ha n with ⟨e, _, _, ho⟩ | ⟨y, to, _, _, hto, _, ho⟩
  · rw [ho] at h; cases h
  · rw [ho] at h
    split at h
    · cases h
    · split at h
      · cases h
      · simp only [Out.ok.injEq] at h; omega

theorem ends_section {B : List Nat} (hB : ∀ c ∈ B, c < 256) (a id : Nat) : Ends (outSection B a id) B.length := fun x b h => by
  by_cases hla : B.length ≤ a
  · rw [outSection_none hla] at h; cases h
  · have hget : B[a]? = some B[a] := List.getElem?_eq_getElem (by omega)
    by_cases hne : B[a] = id
    · rw [hne] at hget
      rcases outSection_cases hB hget with ⟨e, _, _, ho⟩ | ⟨y, to, _, _, _, _, ho⟩
      · rw [ho] at h; cases h
      · rw [ho] at h
        split at h
        · cases h
        · split at h
          · simp only [Out.ok.injEq] at h; omega
          · cases h
    · rw [outSection_other hget hne] at h; cases h

theorem below_drewN (w : World) (n : Nat) : Below w.heap.size w (w.drewN n) := ⟨rfl, rfl, rfl, Nat.le_refl _, fun _ _ => rfl⟩
end Go.Proofs.Ytpjfhakmffcolaa

end

section
/- Arrays of numbers as values: a variable that holds one, loads, stores, elements. No program in sight. -/
namespace Go.Proofs.Ytpjfhakmffcolaa
open Go Go.RowKit

def u32s (l : List Nat) : List Value := l.map fun n : Nat => Value.int .u32 (n : Int)
theorem u32s_length (l : List Nat) : (u32s l).length = l.length := by simp [u32s]
theorem u32s_one (l : List Nat) : ∀ u ∈ u32s l, u.oneCell' = true := by
  intro u hu
  simp only [u32s, List.mem_map] at hu
  obtain ⟨n, _, rfl⟩ := hu
  rfl
theorem u32s_get (l : List Nat) (i x : Nat) (h : l[i]? = some x) : (u32s l)[i]? = some (.int .u32 (x : Int)) := by simp [u32s, h]
theorem u32s_set (l : List Nat) (i x : Nat) : (u32s l).set i (.int .u32 (x : Int)) = u32s (l.set i x) := by simp [u32s, List.map_set]

/-- Whether a type's values are made of several cells. -/
def manyCells : TypeDesc → Bool
  | .struct _ | .array _ _ => true
  | _ => false
/-- An array type t of n elements of type e, each one cell, whose zero value is z. -/
structure Arr (P : Program) (t e : TypeId) (n : Nat) (z : Value) : Prop where
  ht : P.underlying t = some (.array n e)
  hi : ∃ i, P.info? t = some i ∧ i.zero = some (.agg (List.replicate n z).toArray) ∧ i.size = n
  he : ∃ i, P.info? e = some i ∧ i.size = 1
  hl : ∃ d, P.underlying e = some d ∧ manyCells d = false

theorem Arr.mk' {P : Program} {t e : TypeId} {n : Nat} {z : Value} (ht : P.underlying t = some (.array n e)) (hi : (P.info? t).map (fun i => (i.zero, i.size)) = some (some (.agg (List.replicate n z).toArray), n)) (he : (P.info? e).map (·.size) = some 1)
    {d : TypeDesc} (hd : P.underlying e = some d) (hl : manyCells d = false) : Arr P t e n z := by
  obtain ⟨i, h1, h2⟩ := Option.map_eq_some_iff.1 hi
  obtain ⟨j, h3, h4⟩ := Option.map_eq_some_iff.1 he
  simp only [Prod.mk.injEq] at h2
  exact ⟨ht, ⟨i, h1, h2.1, h2.2⟩, ⟨j, h3, h4⟩, ⟨d, hd, hl⟩⟩

theorem mods_setRow (w : World) (g : Nat) (cs : Array Value) : Mods (fun k => k = g) w (w.setRow g cs) :=
  ⟨rfl, rfl, rfl, by simp, fun k _ hs => setRow_other w g k cs hs⟩

section
variable {P : Program} {ops : Array Oper} {rest : List Oper} {o : Oper} {a : Act} {w : World} {Q : Exit → Act → World → Prop} {t e : TypeId} {n : Nat} {z : Value}

/-- A new variable that holds the array. -/
theorem wpList_boxA (hg : o.guard = none) (t : TypeId) (x : Operand) (ho : o.op = .box t x) (cs : List Value) (hx : a.eval x = .agg cs.toArray)
    (h : ∀ w', Blk w' w.heap.size cs → Below w.heap.size w w' → w'.heap.size = w.heap.size + 1 → wpList P ops Q rest (a.put o.dst (.pointer (some ⟨w.heap.size, 0, none⟩))) w') : wpList P ops Q (o :: rest) a w := by
  refine wpList_plain hg fun K hK => ?_
  unfold Oper.wp execOp
  simp only [ho, hx, Sem.run_bind, Instr.box, newVar, newRow, run_newObj_alloc, Sem.run_pure, Result.andThen_ok]
  exact hK _ _ (h _ (by simpa [Value.cells] using Blk.new w cs.toArray t) ((Below.refl _ _).alloc (Nat.le_refl _) _) (by simp))

/-- A new variable that holds the zero value. -/
theorem wpList_allocA (hA : Arr P t e n z) (hg : o.guard = none) (ho : o.op = .alloc t)
    (h : ∀ w', Blk w' w.heap.size (List.replicate n z) → Below w.heap.size w w' → w'.heap.size = w.heap.size + 1 → wpList P ops Q rest (a.put o.dst (.pointer (some ⟨w.heap.size, 0, none⟩))) w') : wpList P ops Q (o :: rest) a w := by
  obtain ⟨i, hi, hz, hs⟩ := hA.hi
  refine wpList_plain hg fun K hK => ?_
  have hzv : (zeroValue t).run P w = .ok (.agg (List.replicate n z).toArray) w := by simp [zeroValue, typeInfo, hi, hz]
  unfold Oper.wp execOp
  simp only [ho, Sem.run_bind, Instr.alloc, hzv, newVar, newRow, run_newObj_alloc, Sem.run_pure, Result.andThen_ok]
  exact hK _ _ (h _ (by simpa [Value.cells] using Blk.new w (List.replicate n z).toArray t) ((Below.refl _ _).alloc (Nat.le_refl _) _) (by simp))

/-- The whole array loaded. -/
theorem wpList_loadA (hA : Arr P t e n z) (hgd : o.guard = none) (x : Operand) (ho : o.op = .load t x) (g : Nat) (hx : a.eval x = .pointer (some ⟨g, 0, none⟩)) (cs : List Value) (hb : Blk w g cs) (hl : cs.length = n)
    (h : wpList P ops Q rest (a.put o.dst (.agg cs.toArray)) w) : wpList P ops Q (o :: rest) a w := by
  obtain ⟨u, hg⟩ := hb
  obtain ⟨i, hi, _, hs⟩ := hA.hi
  exact wpList_load_row hgd t x ho g hx u cs.toArray (0, 0) _ hg hA.ht rfl (by rw [hi]; simp [hs, hl]) h

/-- The whole array stored. -/
theorem wpList_storeA (hA : Arr P t e n z) (hgd : o.guard = none) (x y : Operand) (ho : o.op = .store t x y) (g : Nat) (hx : a.eval x = .pointer (some ⟨g, 0, none⟩)) (cs old : List Value) (hy : a.eval y = .agg cs.toArray)
    (hb : Blk w g old) (hold : old.length = n) (hl : cs.length = n) (h1 : ∀ u ∈ cs, u.oneCell' = true)
    (h : ∀ w', Blk w' g cs → Mods (fun k => k = g) w w' → w'.heap.size = w.heap.size → wpList P ops Q rest (a.put o.dst undef) w') : wpList P ops Q (o :: rest) a w := by
  obtain ⟨u, hg⟩ := hb
  obtain ⟨i, hi, _, hs⟩ := hA.hi
  refine wpList_store_row hgd t x y ho g cs.toArray hx hy u old.toArray hg (by rw [hi]; simp [hs, hl]) (by simp [hold, hl]) (by simpa using h1) ?_
  exact h _ ⟨u, setRow_heap w g _ _ u _ hg⟩ (mods_setRow w g _) (by simp)

/-- One element of an array. -/
theorem wpList_indexA (hA : Arr P t e n z) (hgd : o.guard = none) (x y : Operand) (ho : o.op = .index t x y) (cs : List Value) (hx : a.eval x = .agg cs.toArray) (i : Nat) (hy : a.eval y = .int .i64 (i : Int)) (hi : i < n) (v : Value) (hv : cs[i]? = some v)
    (h : wpList P ops Q rest (a.put o.dst v) w) : wpList P ops Q (o :: rest) a w := by
  obtain ⟨ie, hie, hs⟩ := hA.he
  obtain ⟨d, hd, hnd⟩ := hA.hl
  refine wpList_plain hgd fun K hK => ?_
  have hag : (isAgg e).run P w = .ok false w := by
    unfold isAgg
    rw [Sem.run_bind, run_underlying hd w]
    cases d <;> simp_all [manyCells]
  have hr : (Instr.index t (.agg cs.toArray) (.int .i64 (i : Int))).run P w = .ok v w := by
    have hp : (part e cs.toArray i).run P w = .ok v w := by
      unfold part
      simp [Sem.run_bind, hag, hv]
    simp [Instr.index, asIntOf, Sem.run_bind, run_underlying hA.ht w, sizeOf, typeInfo, hie, hs, hp]
    exact fun hn => absurd hn (by omega)
  unfold Oper.wp execOp
  simp only [ho, hx, hy, Sem.run_bind, hr, Result.andThen_ok]
  exact hK _ _ h

/-- A result that lies in a variable. -/
theorem resultsA (hA : Arr P t e n z) {fn : Func} {p : Tmp} (h : fn.results = #[.cell p t]) (tmps : Array Value) (g : Nat) (hp : tmps.getD p undef = .pointer (some ⟨g, 0, none⟩)) (cs : List Value) (hb : Blk w g cs) (hl : cs.length = n) :
    (results fn tmps).run P w = .ok (.agg cs.toArray) w := by
  obtain ⟨u, hg⟩ := hb
  obtain ⟨i, hi, _, hs⟩ := hA.hi
  exact results_cell_row h tmps w g u cs.toArray (0, 0) _ hp hg hA.ht rfl (by rw [hi]; simp [hs, hl])
end
end Go.Proofs.Ytpjfhakmffcolaa

end

section
/- Structs of numbers as values: a variable that holds one, loads, stores, results. No program in sight. -/
namespace Go.Proofs.Ytpjfhakmffcolaa
open Go Go.RowKit

/-- A struct type t of n cells, whose zero value is made of zs. -/
structure Str (P : Program) (t : TypeId) (n : Nat) (zs : List Value) : Prop where
  ht : ∃ d, P.underlying t = some d ∧ manyCells d = true
  hi : ∃ i, P.info? t = some i ∧ i.zero = some (.agg zs.toArray) ∧ i.size = n
  hz : zs.length = n
theorem Str.mk' {P : Program} {t : TypeId} {n : Nat} {zs : List Value} {d : TypeDesc} (ht : P.underlying t = some d) (hd : manyCells d = true) (hi : (P.info? t).map (fun i => (i.zero, i.size)) = some (some (.agg zs.toArray), n)) (hz : zs.length = n) : Str P t n zs := by
  obtain ⟨i, h1, h2⟩ := Option.map_eq_some_iff.1 hi
  simp only [Prod.mk.injEq] at h2
  exact ⟨⟨d, ht, hd⟩, ⟨i, h1, h2.1, h2.2⟩, hz⟩

theorem Blk.rangeAt {w : World} {g : Nat} {cs : List Value} (h : Blk w g cs) : w.rangeAt g 0 cs := fun j v hv => by rw [Nat.zero_add, h.cell]; simpa using hv

section
variable {P : Program} {ops : Array Oper} {rest : List Oper} {o : Oper} {a : Act} {w : World} {Q : Exit → Act → World → Prop} {t : TypeId} {n : Nat} {zs : List Value}

/-- A new variable that holds the zero value. -/
theorem wpList_allocS (hA : Str P t n zs) (hg : o.guard = none) (ho : o.op = .alloc t)
    (h : ∀ w', Blk w' w.heap.size zs → Below w.heap.size w w' → w'.heap.size = w.heap.size + 1 → wpList P ops Q rest (a.put o.dst (.pointer (some ⟨w.heap.size, 0, none⟩))) w') : wpList P ops Q (o :: rest) a w := by
  obtain ⟨i, hi, hz, hs⟩ := hA.hi
  refine wpList_plain hg fun K hK => ?_
  have hzv : (zeroValue t).run P w = .ok (.agg zs.toArray) w := by simp [zeroValue, typeInfo, hi, hz]
  unfold Oper.wp execOp
  simp only [ho, Sem.run_bind, Instr.alloc, hzv, newVar, newRow, run_newObj_alloc, Sem.run_pure, Result.andThen_ok]
  exact hK _ _ (h _ (by simpa [Value.cells] using Blk.new w zs.toArray t) ((Below.refl _ _).alloc (Nat.le_refl _) _) (by simp))

/-- A struct loaded from wherever its cells lie. -/
theorem wpList_loadS (hA : Str P t n zs) (hgd : o.guard = none) (x : Operand) (ho : o.op = .load t x) (g m : Nat) (hx : a.eval x = .pointer (some ⟨g, m, none⟩)) (cs : List Value) (hb : w.rangeAt g m cs) (hl : cs.length = n)
    (h : wpList P ops Q rest (a.put o.dst (.agg cs.toArray)) w) : wpList P ops Q (o :: rest) a w := by
  obtain ⟨i, hi, _, hs⟩ := hA.hi
  obtain ⟨d, hu, hd⟩ := hA.ht
  exact wpList_load_mid hgd t x ho g m hx cs d hb hu (by cases d <;> simp_all [manyCells, TypeDesc.isRow]) (by rw [hi]; simp [hs, hl]) h

/-- A struct stored into a variable of its own. -/
theorem wpList_storeS (hA : Str P t n zs) (hgd : o.guard = none) (x y : Operand) (ho : o.op = .store t x y) (g : Nat) (hx : a.eval x = .pointer (some ⟨g, 0, none⟩)) (cs old : List Value) (hy : a.eval y = .agg cs.toArray)
    (hb : Blk w g old) (hold : old.length = n) (hl : cs.length = n) (h1 : ∀ u ∈ cs, u.oneCell' = true)
    (h : ∀ w', Blk w' g cs → Mods (fun k => k = g) w w' → w'.heap.size = w.heap.size → wpList P ops Q rest (a.put o.dst undef) w') : wpList P ops Q (o :: rest) a w := by
  obtain ⟨u, hg⟩ := hb
  obtain ⟨i, hi, _, hs⟩ := hA.hi
  refine wpList_store_row hgd t x y ho g cs.toArray hx hy u old.toArray hg (by rw [hi]; simp [hs, hl]) (by simp [hold, hl]) (by simpa using h1) ?_
  exact h _ ⟨u, setRow_heap w g _ _ u _ hg⟩ (mods_setRow w g _) (by simp)

/-- A result that lies in a variable. -/
theorem run_loadS (hA : Str P t n zs) (g : Nat) (cs : List Value) (hb : Blk w g cs) (hl : cs.length = n) : (loadVar t ⟨g, 0, none⟩).run P w = .ok (.agg cs.toArray) w := by
  obtain ⟨i, hi, _, hs⟩ := hA.hi
  obtain ⟨d, hu, hd⟩ := hA.ht
  exact run_loadVar_mid w g 0 t cs d hb.rangeAt hu (by cases d <;> simp_all [manyCells, TypeDesc.isRow]) (by rw [hi]; simp [hs, hl])
theorem resultsS (hA : Str P t n zs) {fn : Func} {p : Tmp} (h : fn.results = #[.cell p t]) (tmps : Array Value) (g : Nat) (hp : tmps.getD p undef = .pointer (some ⟨g, 0, none⟩)) (cs : List Value) (hb : Blk w g cs) (hl : cs.length = n) :
    (results fn tmps).run P w = .ok (.agg cs.toArray) w := by
  have hp' : tmps[p]?.getD undef = .pointer (some ⟨g, 0, none⟩) := by simpa using hp
  simp [results, h, hp', asAddr, run_loadS hA g cs hb hl]
theorem resultsS2 (hA : Str P t n zs) {fn : Func} {p u : Tmp} (h : fn.results = #[.cell p t, .tmp u]) (tmps : Array Value) (g : Nat) (hp : tmps.getD p undef = .pointer (some ⟨g, 0, none⟩)) (cs : List Value) (hb : Blk w g cs) (hl : cs.length = n) :
    (results fn tmps).run P w = .ok (.tuple #[.agg cs.toArray, tmps.getD u undef]) w := by
  have hp' : tmps[p]?.getD undef = .pointer (some ⟨g, 0, none⟩) := by simpa using hp
  simp [results, h, hp', asAddr, run_loadS hA g cs hb hl]
end
end Go.Proofs.Ytpjfhakmffcolaa

end
