/- Layer 4: the reference's reader: Fail, Byte, Uint, End. -/
import Derived.Test.YtkgghlhmgolfbaaDoorRead
import Derived.Test.YtkgghlhmgolfbaaDoorBytes
import Derived.Test.YtkgghlhmgolfbaaDoorRef02
import Derived.Test.YtkgghlhmgolfbaaDoorTakeH
set_option linter.unusedVariables false
namespace Go.Proofs.YtkgghlhmgolfbaaDoor
open Go Go.RowKit

/-- The reference's reader at block q: its bytes, its offset, its error. -/
structure RRd (w : World) (q : Nat) (v : Value) (B : List Nat) (a : Nat) (e : Int) : Prop where
  blk : Blk w q [v, .int .i64 (a : Int), .int .i64 e]
  rd : Rd w 1 v B.length (u8s B)
  ne : ∀ k, v.ownBlock = some k → k ≠ q
theorem RRd.mods {S : Nat → Prop} {w w' : World} {q : Nat} {v : Value} {B : List Nat} {a : Nat} {e : Int} (h : RRd w q v B a e) (hm : Mods S w w') (hq : ¬ S q) (hv : ∀ k, v.ownBlock = some k → ¬ S k) : RRd w' q v B a e := ⟨hm.blk h.blk hq, h.rd.mods hm hv, h.ne⟩
theorem RRd.below {w w' : World} {q : Nat} {v : Value} {B : List Nat} {a : Nat} {e : Int} (h : RRd w q v B a e) (hb : Below w.heap.size w w') : RRd w' q v B a e := h.mods (Mods.of_below hb (fun _ => False)) (fun h => h) (fun _ _ h => h)
theorem RRd.drew {w : World} {q : Nat} {v : Value} {B : List Nat} {a : Nat} {e : Int} (h : RRd w q v B a e) : RRd w.drew q v B a e := h.mods (Mods.drew (fun _ => False) w) (fun h => h) (fun _ _ h => h)
theorem RRd.drewN {w : World} {q : Nat} {v : Value} {B : List Nat} {a : Nat} {e : Int} (h : RRd w q v B a e) (n : Nat) : RRd (w.drewN n) q v B a e := h.mods (Mods.drewN (fun _ => False) w n) (fun h => h) (fun _ _ h => h)
theorem RRd.cells {w : World} {q : Nat} {v : Value} {B : List Nat} {a : Nat} {e : Int} (h : RRd w q v B a e) : w.cell? ⟨q, 0, none⟩ = some v ∧ w.cell? ⟨q, 1, none⟩ = some (.int .i64 (a : Int)) ∧ w.cell? ⟨q, 2, none⟩ = some (.int .i64 e) ∧ w.frozen? ⟨q, 1, none⟩ = false ∧ w.frozen? ⟨q, 2, none⟩ = false :=
  ⟨by rw [h.blk.cell]; rfl, by rw [h.blk.cell]; rfl, by rw [h.blk.cell]; rfl, h.blk.free 1, h.blk.free 2⟩
theorem RRd.setErr {w : World} {q : Nat} {v : Value} {B : List Nat} {a : Nat} {e : Int} (h : RRd w q v B a e) (x : Int) : RRd (w.setCell ⟨q, 2, none⟩ (.int .i64 x)) q v B a x :=
  ⟨h.blk.set 2 _, h.rd.mods (Mods.set (fun j => j = q) _ _ _ (fun _ => rfl)) h.ne, h.ne⟩
theorem RRd.setAt {w : World} {q : Nat} {v : Value} {B : List Nat} {a : Nat} {e : Int} (h : RRd w q v B a e) (b : Nat) : RRd (w.setCell ⟨q, 1, none⟩ (.int .i64 (b : Int))) q v B b e :=
  ⟨h.blk.set 1 _, h.rd.mods (Mods.set (fun j => j = q) _ _ _ (fun _ => rfl)) h.ne, h.ne⟩
theorem mods_set (w : World) (q i : Nat) (u : Value) : Mods (fun k => k = q) w (w.setCell ⟨q, i, none⟩ u) := Mods.set _ _ _ _ (fun _ => rfl)

theorem calls_flip {P : Program} {f : FuncId} {args : Array Value} {w : World} {r : Ending} (h : Calls P f args w fun e w' => e = r ∧ w = w') : Calls P f args w fun e w' => e = r ∧ w' = w := h.mono fun _ _ h => ⟨h.1, h.2.symm⟩

/-- What a read leaves: its value and the new offset, or zero and the error. -/
def Got {α : Type} (o : Out α) (val : α → Value) (z : Value) (inv : Nat → Int → Prop) (a : Nat) (en : Ending) : Prop := match o with
  | .ok x b => en = .returned (val x) ∧ inv b 0
  | .bad e => en = .returned z ∧ inv a (e : Int)

theorem rr_fail (q : Nat) (v : Value) (B : List Nat) (a : Nat) (e x : Int) (w : World) (h : RRd w q v B a e) :
    Calls Tryd.prog 39 #[.pointer (some ⟨q, 0, none⟩), .int .i64 x] w fun en w' => en = .returned (.tuple #[]) ∧ RRd w' q v B a (if e = 0 then x else e) ∧ Mods (fun k => k = q) w w' := by
  obtain ⟨c0, c1, c2, f1, f2⟩ := h.cells
  have H := Lib.hid h
  clear h
  by_cases he : e = 0
  · subst he
    go_enter Tryd.func39, Tryd.ntmps39
    go_wp2
    go_end0
    exact ⟨rfl, by simpa using H.out.setErr x, mods_set _ _ _ _⟩
  · go_enter Tryd.func39, Tryd.ntmps39
    go_wp2
    go_end0
    exact ⟨rfl, by simpa [he] using H.out, Mods.refl _ _⟩

theorem rr_byte_err (q : Nat) (v : Value) (B : List Nat) (a : Nat) (e : Int) (w : World) (h : RRd w q v B a e) (he : e ≠ 0) :
    Calls Tryd.prog 34 #[.pointer (some ⟨q, 0, none⟩)] w fun en w' => en = .returned (.int .u8 0) ∧ RRd w' q v B a e ∧ Mods (fun k => k = q) w w' := by
  obtain ⟨c0, c1, c2, f1, f2⟩ := h.cells
  obtain ⟨p, c, hv⟩ := h.rd.shape
  subst hv
  have H := Lib.hid h
  clear h
  have heb : (e == 0) = false := by rw [beq_eq_false_iff_ne]; exact he
  go_enter Tryd.func34, Tryd.ntmps34
  go_wp2_with fail
  go_quiet (fail)
  go_wp2_with fail
  go_ret
  exact ⟨rfl, H.out.drewN _, Mods.drewN _ _ _⟩

set_option maxHeartbeats 400000 in
theorem rr_byte (q : Nat) (v : Value) (B : List Nat) (a : Nat) (w : World) (h : RRd w q v B a 0) (hB : ∀ c ∈ B, c < 256) :
    Calls Tryd.prog 34 #[.pointer (some ⟨q, 0, none⟩)] w fun en w' => Mods (fun k => k = q) w w' ∧ Got (outByte B a) (fun c => .int .u8 (c : Int)) (.int .u8 0) (fun b e => RRd w' q v B b e) a en := by
  obtain ⟨c0, c1, c2, f1, f2⟩ := h.cells
  have hmax := h.rd.le
  have H := Lib.hid h
  by_cases hlt : a < B.length
  · obtain ⟨b, off, c, hv, _, _, hc⟩ := h.rd.at (fun e => by have := congrArg List.length e; rw [u8s_length] at this; simp at this; subst this; simp at hlt)
    subst hv
    have hcell := hc a _ (u8s_get _ _ hlt)
    have HO : Hid (outByte B a = .ok B[a] (a + 1)) := by show _ = _; rw [outByte, List.getElem?_eq_getElem hlt]
    have hbq : b ≠ q := h.ne b rfl
    rw [HO.out]
    have hlt' : ¬ (B.length : Int) ≤ (a : Int) := by omega
    have hlt2 : (a : Int) < (B.length : Int) := by omega
    have hmax2 : (B.length : Int) ≤ 9223372036854775807 := by unfold maxLen at hmax; omega
    clear h hc hmax
    generalize B[a] = x at *
    go_enter Tryd.func34, Tryd.ntmps34
    go_wp2_with fail
    go_quiet (fail)
    go_wp2_with fail
    go_quiet (fail)
    go_wp2_with fail
    go_ret
    have e1 : (a : Int) + 1 = ((a + 1 : Nat) : Int) := by omega
    rw [e1]
    refine ⟨(Mods.drewN _ w _).trans ((mods_set _ q 1 _).trans (Mods.drewN (fun k => k = q) _ _) (fun _ _ e => e)) (fun _ _ e => e), rfl, ?_⟩
    exact ((H.out.drewN _).setAt (a + 1)).drewN _
  · obtain ⟨p, c, hv⟩ := h.rd.shape
    subst hv
    have HO : Hid (outByte B a = .bad 3) := by show _ = _; rw [outByte, List.getElem?_eq_none (by omega)]
    rw [HO.out]
    have hlt' : (B.length : Int) ≤ (a : Int) := by omega
    clear h hmax
    go_enter Tryd.func34, Tryd.ntmps34
    go_wp2_with fail
    go_quiet (fail)
    go_wp2_with fail
    refine (rr_fail q _ B a 0 3 _ (H.out.drewN _)).mono ?_
    rintro en w1 ⟨rfl, hR, hm⟩
    rw [if_pos rfl] at hR
    have HM := Lib.hid ((Mods.drewN (fun k => k = q) w _).trans hm (fun _ _ e => e))
    have HR := Lib.hid hR
    obtain ⟨d0, d1, d2, g1, g2⟩ := hR.cells
    clear hR hm c0 c1 c2 f1 f2
    go_wp2_with fail
    go_ret
    exact ⟨HM.out, rfl, HR.out⟩

set_option maxHeartbeats 400000 in
theorem rr_end (q : Nat) (v : Value) (B : List Nat) (a : Nat) (e : Int) (w : World) (h : RRd w q v B a e) :
    Calls Tryd.prog 19 #[.pointer (some ⟨q, 0, none⟩)] w fun en w' => en = .returned (.int .i64 (if e = 0 ∧ a < B.length then 4 else e)) ∧ ∃ n, w' = w.drewN n := by
  obtain ⟨c0, c1, c2, f1, f2⟩ := h.cells
  obtain ⟨p, c, hv⟩ := h.rd.shape
  subst hv
  clear h
  by_cases he : e = 0
  · subst he
    by_cases hlt : a < B.length
    · have hlt2 : (a : Int) < (B.length : Int) := by omega
      have HE : Hid ((if (0 : Int) = 0 ∧ a < B.length then (4 : Int) else 0) = 4) := if_pos ⟨rfl, hlt⟩
      rw [HE.out]
      go_enter Tryd.func19, Tryd.ntmps19
      go_wp2_with fail
      go_quiet (fail)
      go_wp2_with fail
      go_ret
      exact ⟨rfl, _, rfl⟩
    · have hlt2 : ¬ (a : Int) < (B.length : Int) := by omega
      have HE : Hid ((if (0 : Int) = 0 ∧ a < B.length then (4 : Int) else 0) = 0) := if_neg (fun h => hlt h.2)
      rw [HE.out]
      go_enter Tryd.func19, Tryd.ntmps19
      go_wp2_with fail
      go_quiet (fail)
      go_wp2_with fail
      go_ret
      exact ⟨rfl, _, rfl⟩
  · have HE : Hid ((if e = 0 ∧ a < B.length then (4 : Int) else e) = e) := if_neg (fun h => he h.1)
    rw [HE.out]
    have heb : (e == 0) = false := by rw [beq_eq_false_iff_ne]; exact he
    go_enter Tryd.func19, Tryd.ntmps19
    go_wp2_with fail
    go_quiet (fail)
    go_wp2_with fail
    go_ret
    exact ⟨rfl, _, rfl⟩
end Go.Proofs.YtkgghlhmgolfbaaDoor
