/- Layer 4: one step of both readers. -/
import Derived.Test.YtkgghlhmgolfbaaDoorWireI
import Derived.Test.YtkgghlhmgolfbaaDoorRef04B
import Derived.Test.YtkgghlhmgolfbaaDoorRef04D
import Derived.Test.YtkgghlhmgolfbaaDoorRef04E
import Derived.Test.YtkgghlhmgolfbaaDoorRef04F
set_option linter.unusedVariables false
namespace Go.Proofs.YtkgghlhmgolfbaaDoor
open Go Go.RowKit

/-- Both readers, at one offset, with one error. -/
structure Two (G : Nat) (R : World → Nat → Value → List Nat → Nat → Int → Prop) (w : World) (p q : Nat) (v vq : Value) (B : List Nat) (a : Nat) (e : Int) : Prop where
  one : R w p v B a e
  two : RRd w q vq B a e
  pq : p ≠ q
  gq : G ≤ q
  vne : ∀ k, v.ownBlock = some k → k ≠ q
  qne : ∀ k, vq.ownBlock = some k → k ≠ p

variable {G : Nat} {T : World → Prop} {R : World → Nat → Value → List Nat → Nat → Int → Prop}
theorem Two.below (I : WIf G T R) {w w' : World} {p q : Nat} {v vq : Value} {B : List Nat} {a : Nat} {e : Int} (h : Two G R w p q v vq B a e) (hb : Below w.heap.size w w') : Two G R w' p q v vq B a e := ⟨I.below h.one hb, h.two.below hb, h.pq, h.gq, h.vne, h.qne⟩
theorem Two.drewN (I : WIf G T R) {w : World} {p q : Nat} {v vq : Value} {B : List Nat} {a : Nat} {e : Int} (h : Two G R w p q v vq B a e) (n : Nat) : Two G R (w.drewN n) p q v vq B a e := ⟨I.mods h.one (Mods.drewN (fun _ => False) w n) (fun h => h) (fun _ _ h => h) (fun _ _ h => h), h.two.drewN n, h.pq, h.gq, h.vne, h.qne⟩
theorem Two.drew (I : WIf G T R) {w : World} {p q : Nat} {v vq : Value} {B : List Nat} {a : Nat} {e : Int} (h : Two G R w p q v vq B a e) : Two G R w.drew p q v vq B a e := ⟨I.mods h.one (Mods.drew (fun _ => False) w) (fun h => h) (fun _ _ h => h) (fun _ _ h => h), h.two.drew, h.pq, h.gq, h.vne, h.qne⟩
/-- What a step leaves. -/
def Stepped (G : Nat) (R : World → Nat → Value → List Nat → Nat → Int → Prop) (p q : Nat) (v vq : Value) (B : List Nat) (w w' : World) : Prop := ∃ a e, Two G R w' p q v vq B a e ∧ Mods (fun k => k = p ∨ k = q) w w'

theorem Two.afterOne {w w1 : World} {p q : Nat} {v vq : Value} {B : List Nat} {a : Nat} {e : Int} (h : Two G R w p q v vq B a e) (hm : Mods (fun k => k = p) w w1) : RRd w1 q vq B a e := h.two.mods hm (fun e => h.pq e.symm) h.qne
theorem Two.afterTwo (I : WIf G T R) {w w1 w2 : World} {p q : Nat} {v vq : Value} {B : List Nat} {a b : Nat} {e z : Int} (h : Two G R w p q v vq B a e) (hR : R w1 p v B b z) (hQ : RRd w2 q vq B b z) (hm : Mods (fun k => k = q) w1 w2) : Two G R w2 p q v vq B b z := ⟨I.mods hR hm h.pq h.vne (fun k hk e => by have := h.gq; omega), hQ, h.pq, h.gq, h.vne, h.qne⟩
/-- The step, in its variable. -/
def Box (b : Nat) (N : Int) (U id : Nat) (w' : World) : Prop := w'.cell? ⟨b, 1, none⟩ = some (.int .i64 N) ∧ w'.cell? ⟨b, 2, none⟩ = some (.int .u64 (U : Int)) ∧ w'.cell? ⟨b, 3, none⟩ = some (.int .u8 (id : Int))
theorem Box.new (w : World) (K N : Int) (U id : Nat) (t : TypeId) : Box w.heap.size N U id (w.alloc (.cells #[.int .i64 K, .int .i64 N, .int .u64 (U : Int), .int .u8 (id : Int)] t)) := by
  have h := Blk.new w #[.int .i64 K, .int .i64 N, .int .u64 (U : Int), .int .u8 (id : Int)] t
  exact ⟨by rw [h.cell]; rfl, by rw [h.cell]; rfl, by rw [h.cell]; rfl⟩
theorem Box.drew {b : Nat} {N : Int} {U id : Nat} {w : World} (h : Box b N U id w) : Box b N U id w.drew := h
theorem Box.mods {S : Nat → Prop} {b : Nat} {N : Int} {U id : Nat} {w w' : World} (h : Box b N U id w) (hm : Mods S w w') (hs : ¬ S b) : Box b N U id w' := ⟨hm.cell h.1 hs, hm.cell h.2.1 hs, hm.cell h.2.2 hs⟩
theorem outTake_lt {B l : List Nat} {a b : Nat} {n : Int} (hB : ∀ c ∈ B, c < 256) (h : outTake B a n = .ok l b) : ∀ c ∈ l, c < 256 := by
  unfold outTake at h
  split at h
  · cases h
  · split at h
    · cases h
    · simp only [Out.ok.injEq] at h
      rw [← h.1]
      exact fun c hc => hB c (List.mem_of_mem_drop (List.mem_of_mem_take hc))
theorem outSection_lt {B l : List Nat} {a b id : Nat} (hB : ∀ c ∈ B, c < 256) (h : outSection B a id = .ok l b) : ∀ c ∈ l, c < 256 := by
  cases h0 : B[a]? with
  | none => rw [outSection, h0] at h; cases h
  | some c =>
    by_cases hc : c = id
    · subst hc
      rcases outSection_cases hB h0 with ⟨e, _, _, hr⟩ | ⟨x, to, _, _, _, _, hr⟩
      · rw [hr] at h; cases h
      · rw [hr] at h
        split at h
        · cases h
        · split at h
          · simp only [Out.ok.injEq] at h
            rw [← h.1]
            exact fun c hc => hB c (List.mem_of_mem_drop (List.mem_of_mem_take hc))
          · cases h
    · rw [outSection_other h0 hc] at h; cases h
/-- What lies at the reference's reader. -/
def QCells (q : Nat) (vq : Value) (a : Nat) (e : Int) (w' : World) : Prop := w'.cell? ⟨q, 0, none⟩ = some vq ∧ w'.cell? ⟨q, 1, none⟩ = some (.int .i64 (a : Int)) ∧ w'.cell? ⟨q, 2, none⟩ = some (.int .i64 e)
theorem Two.qcells {w : World} {p q : Nat} {v vq : Value} {B : List Nat} {a : Nat} {e : Int} (h : Two G R w p q v vq B a e) : QCells q vq a e w := ⟨h.two.cells.1, h.two.cells.2.1, h.two.cells.2.2.1⟩
theorem QCells.drew {q : Nat} {vq : Value} {a : Nat} {e : Int} {w : World} (h : QCells q vq a e w) : QCells q vq a e w.drew := h

set_option maxHeartbeats 4000000 in
theorem step_other (I : WIf G T R) (p q : Nat) (v vq : Value) (B : List Nat) (a : Nat) (e : Int) (K N : Int) (U id : Nat) (w : World) (h : Two G R w p q v vq B a e) (hK : K < 0 ∨ 5 < K) :
    Calls Tryd.prog 17 #[.pointer (some ⟨p, 0, none⟩), .pointer (some ⟨q, 0, none⟩), .agg #[.int .i64 K, .int .i64 N, .int .u64 (U : Int), .int .u8 (id : Int)]] w fun en w' => en = .returned (.int .i64 1) ∧ Stepped G R p q v vq B w w' := by
  have HB : Hid (Below w.heap.size w (w.alloc (.cells #[.int .i64 K, .int .i64 N, .int .u64 (U : Int), .int .u8 (id : Int)] 41))) := (Below.refl _ _).alloc (Nat.le_refl _) _
  have HS := Lib.hid (h.below I HB.out)
  have HM : Hid (Mods (fun k => k = p ∨ k = q) w (w.alloc (.cells #[.int .i64 K, .int .i64 N, .int .u64 (U : Int), .int .u8 (id : Int)] 41))) := Mods.of_below HB.out _
  clear h
  have k0 : ¬ K = 0 := by omega
  have k1 : ¬ K = 1 := by omega
  have k2 : ¬ K = 2 := by omega
  have k3 : ¬ K = 3 := by omega
  have k4 : ¬ K = 4 := by omega
  have k5 : ¬ K = 5 := by omega
  go_enter Tryd.func17, Tryd.ntmps17
  go_wp2_with fail
  generalize w.alloc (.cells #[.int .i64 K, .int .i64 N, .int .u64 (U : Int), .int .u8 (id : Int)] 41) = wx at *
  have HC : Hid (∀ w', QCells q vq a e w' → w'.cell? ⟨q, 0, none⟩ = some vq ∧ w'.cell? ⟨q, 1, none⟩ = some (.int .i64 (a : Int)) ∧ w'.cell? ⟨q, 2, none⟩ = some (.int .i64 e)) := fun _ h => h
  have HS0 := Lib.hid (HS.out.drew I)
  refine wp_region_takeH (QCells q vq a e) [4, 13, 22, 24] [0, 1, 2, 3, 5, 6, 7, 8, 4, 9, 10, 11, 12, 14, 15, 16, 17, 13, 18, 19, 20, 21, 23, 22, 24, 25, 26] (by kernel_rfl) (by kernel_rfl) (by kernel_rfl) ?_ ?_ ?_
  · intro c a a' w hd h; exact ⟨hd ▸ h.1, h.2⟩
  · exact HS.out.qcells.drew
  simp only [taken, List.map_cons, List.map_nil, List.getElem?_cons_succ, List.getElem?_cons_zero, Option.getD_some]
  repeat (first
        | (refine takeH_skip rfl ?_; simp only [Act.put, List.setIfInBounds_toArray, List.set_cons_succ, List.set_cons_zero])
        | (refine takeH_blind rfl rfl ?_; apply Exists.intro; refine ⟨fun w => ?_, ?_⟩; (go_simp; try with_reducible rfl); simp only [Act.put, List.setIfInBounds_toArray, List.set_cons_succ, List.set_cons_zero])
        | (refine takeH_reads rfl rfl ?_; apply Exists.intro; refine ⟨fun w' hS => ?_, ?_⟩; (obtain ⟨d0, d1, d2⟩ := HC.out w' hS; go_simp; try with_reducible rfl); simp only [Act.put, List.setIfInBounds_toArray, List.set_cons_succ, List.set_cons_zero]))
  refine takeH_call rfl rfl (fun K' hK => ?_)
  go_wp2_with fail
  refine (I.pos HS0.out.one).mono ?_
  rintro en w1 ⟨rfl, hB⟩
  have HS1 := Lib.hid (HS0.out.below I hB)
  have HM1 : Hid (Mods (fun k => k = p ∨ k = q) w w1) := (HM.out.trans (Mods.drew (fun k => k = p ∨ k = q) _) (fun _ _ e => e)).trans (Mods.of_below hB _) (fun _ _ e => e)
  refine hK _ _ HS1.out.qcells ?_
  clear hK K' hB HS HM HS0
  repeat (first
        | (refine takeH_skip rfl ?_; simp only [Act.put, List.setIfInBounds_toArray, List.set_cons_succ, List.set_cons_zero])
        | (refine takeH_blind rfl rfl ?_; apply Exists.intro; refine ⟨fun w => ?_, ?_⟩; (go_simp; try with_reducible rfl); simp only [Act.put, List.setIfInBounds_toArray, List.set_cons_succ, List.set_cons_zero])
        | (refine takeH_reads rfl rfl ?_; apply Exists.intro; refine ⟨fun w' hS => ?_, ?_⟩; (obtain ⟨d0, d1, d2⟩ := HC.out w' hS; go_simp; try with_reducible rfl); simp only [Act.put, List.setIfInBounds_toArray, List.set_cons_succ, List.set_cons_zero]))
  refine takeH_call rfl rfl (fun K' hK => ?_)
  go_wp2_with fail
  refine (I.err HS1.out.one).mono ?_
  rintro en w2 ⟨rfl, hB⟩
  have HS2 := Lib.hid (HS1.out.below I hB)
  have HM2 : Hid (Mods (fun k => k = p ∨ k = q) w w2) := HM1.out.trans (Mods.of_below hB _) (fun _ _ e => e)
  refine hK _ _ HS2.out.qcells ?_
  clear hK K' hB HS1 HM1
  repeat (first
        | (refine takeH_skip rfl ?_; simp only [Act.put, List.setIfInBounds_toArray, List.set_cons_succ, List.set_cons_zero])
        | (refine takeH_blind rfl rfl ?_; apply Exists.intro; refine ⟨fun w => ?_, ?_⟩; (go_simp; try with_reducible rfl); simp only [Act.put, List.setIfInBounds_toArray, List.set_cons_succ, List.set_cons_zero])
        | (refine takeH_reads rfl rfl ?_; apply Exists.intro; refine ⟨fun w' hS => ?_, ?_⟩; (obtain ⟨d0, d1, d2⟩ := HC.out w' hS; go_simp; try with_reducible rfl); simp only [Act.put, List.setIfInBounds_toArray, List.set_cons_succ, List.set_cons_zero]))
  refine takeH_call rfl rfl (fun K' hK => ?_)
  go_wp2_with fail
  refine (I.fin HS2.out.one).mono ?_
  rintro en w3 ⟨rfl, hB⟩
  have HS3 := Lib.hid (HS2.out.below I hB)
  have HM3 : Hid (Mods (fun k => k = p ∨ k = q) w w3) := HM2.out.trans (Mods.of_below hB _) (fun _ _ e => e)
  have HE3 := Lib.hid (rr_end q vq B a e w3 HS3.out.two)
  generalize (if e = 0 ∧ a < B.length then (4 : Int) else e) = X at *
  refine hK _ _ HS3.out.qcells ?_
  clear hK K' hB HS2 HM2
  repeat (first
        | (refine takeH_skip rfl ?_; simp only [Act.put, List.setIfInBounds_toArray, List.set_cons_succ, List.set_cons_zero])
        | (refine takeH_blind rfl rfl ?_; apply Exists.intro; refine ⟨fun w => ?_, ?_⟩; (go_simp; try with_reducible rfl); simp only [Act.put, List.setIfInBounds_toArray, List.set_cons_succ, List.set_cons_zero])
        | (refine takeH_reads rfl rfl ?_; apply Exists.intro; refine ⟨fun w' hS => ?_, ?_⟩; (obtain ⟨d0, d1, d2⟩ := HC.out w' hS; go_simp; try with_reducible rfl); simp only [Act.put, List.setIfInBounds_toArray, List.set_cons_succ, List.set_cons_zero]))
  refine takeH_call rfl rfl (fun K' hK => ?_)
  go_wp2_with fail
  refine HE3.out.mono ?_
  rintro en w4 ⟨rfl, n4, rfl⟩
  have HS4 := Lib.hid (HS3.out.drewN I n4)
  have HM4 : Hid (Mods (fun k => k = p ∨ k = q) w (w3.drewN n4)) := HM3.out.trans (Mods.drewN _ _ _) (fun _ _ e => e)
  refine hK _ _ HS4.out.qcells ?_
  clear hK K' HS3 HM3 HE3
  repeat (first
        | (refine takeH_skip rfl ?_; simp only [Act.put, List.setIfInBounds_toArray, List.set_cons_succ, List.set_cons_zero])
        | (refine takeH_blind rfl rfl ?_; apply Exists.intro; refine ⟨fun w => ?_, ?_⟩; (go_simp; try with_reducible rfl); simp only [Act.put, List.setIfInBounds_toArray, List.set_cons_succ, List.set_cons_zero])
        | (refine takeH_reads rfl rfl ?_; apply Exists.intro; refine ⟨fun w' hS => ?_, ?_⟩; (obtain ⟨d0, d1, d2⟩ := HC.out w' hS; go_simp; try with_reducible rfl); simp only [Act.put, List.setIfInBounds_toArray, List.set_cons_succ, List.set_cons_zero]))
  refine takeH_nil ?_
  go_wp2_with fail
  go_ret
  exact ⟨rfl, a, e, HS4.out, HM4.out⟩
end Go.Proofs.YtkgghlhmgolfbaaDoor
