/- Layer 5: the function that yields the differences of the differences. -/
import Derived.Test.YtjgiaibpipgjjaaDoorTimesFo
import Derived.Test.YtjgiaibpipgjjaaDoorRange
import Derived.Test.YtjgiaibpipgjjaaDoorRef05B
set_option linter.unusedVariables false
namespace Go.Proofs.YtjgiaibpipgjjaaDoor
open Go Go.RowKit Go.Shelf
attribute [local go_sem] Oper.semAt_some

/-- The differences of the differences. -/
def changesT (last d : Int) : List Int → List Int
  | [] => []
  | t :: l => wrap64 (wrap64 (t - last) - d) :: changesT t (wrap64 (t - last)) l
theorem encFrom_changes (last d : Int) (l : List Int) : encFrom last d l = (changesT last d l).flatMap encX := by
  induction l generalizing last d with
  | nil => rfl
  | cons t l ih => rw [encFrom, changesT, List.flatMap_cons, ih]
theorem changesT_length (last d : Int) (l : List Int) : (changesT last d l).length = l.length := by
  induction l generalizing last d with
  | nil => rfl
  | cons t l ih => rw [changesT, List.length_cons, List.length_cons, ih]
theorem changesT_in (last d : Int) (l : List Int) : ∀ x ∈ changesT last d l, in64 x := by
  induction l generalizing last d with
  | nil => intro x hx; cases hx
  | cons t l ih =>
    intro x hx
    rw [changesT] at hx
    rcases List.mem_cons.1 hx with rfl | h
    · exact w64_in _
    · exact ih _ _ x h

/-- The blocks K are as they were. -/
def KeepAt (K : Nat → Prop) (A B : World) : Prop := ∀ k, K k → B.heap[k]? = A.heap[k]?
theorem keepAt_t {K : Nat → Prop} {A B C : World} (h : KeepAt K A B) (k : KeepAt K B C) : KeepAt K A C := fun j hj => (k j hj).trans (h j hj)
theorem keepAt_b {K : Nat → Prop} {w : World} (hK : ∀ k, K k → k < w.heap.size) (W : World) (l : Nat) (o o' : Obj) (hl : w.heap.size ≤ l) (h : W.heap[l]? = some o) (_ : o.isCells = false) (_ : o.isWalk = false) : KeepAt K W (W.putObj l o') := fun k hk => by
  have h1 := hK k hk
  have h2 := (Array.getElem?_eq_some_iff.1 h).1
  exact (grownBy_putObj' W l o').block k (by omega) (fun e => by cases e; omega)
theorem KeepAt.cell {K : Nat → Prop} {A B : World} (h : KeepAt K A B) {b : Nat} (hb : K b) (i : Nat) : B.cell? ⟨b, i, none⟩ = A.cell? ⟨b, i, none⟩ := by
  unfold World.cell?
  rw [h b hb]
theorem KeepAt.rd {K : Nat → Prop} {A B : World} (h : KeepAt K A B) {sz : Nat} {v : Value} {n : Nat} {xs : List Value} (hr : Rd A sz v n xs) (hv : ∀ k, v.ownBlock = some k → K k) : Rd B sz v n xs := by
  refine hr.of_cells fun a u hu ⟨p, hp, hab⟩ => ?_
  have hk : K a.block := hv _ (by rw [hp, hab]; rfl)
  rw [← hu]
  exact World.cell?_of_block (h _ hk)

theorem grown_drewN (w : World) (n : Nat) : w.grownBy (w.drewN n) none := ⟨rfl, rfl, rfl, Nat.le_refl _, fun _ _ _ => rfl⟩

theorem new_changes (p : Option Addr) (m c : Nat) (w : World) (n : Nat) :
    CallsIn Fence.wide n Tryd.prog 29 #[.slice p m c] w fun e w' => e = .returned (.func (.func 40) #[] #[.pointer (some ⟨w.heap.size, 0, none⟩)]) ∧ w' = w.alloc (.cells #[.slice p m c] 22) := by
  refine callsIn_wide.2 ?_
  go_enter Tryd.func29, Tryd.ntmps29
  go_wp2_with fail
  go_ret
  exact ⟨rfl, rfl⟩

set_option maxRecDepth 100000 in
set_option maxHeartbeats 1000000 in
theorem changes_gives (n : Nat) (hn : 1 ≤ n) (b : Nat) (lv : Value) (ls : List Int) (t0 : Int) (tl : List Int) (els : ls = t0 :: tl) (w : World) (hc : w.cell? ⟨b, 0, none⟩ = some lv) (hl : Rd w 1 lv ls.length (i64s ls)) :
    SeqStopsK Fence.wide n Tryd.prog 40 #[.pointer (some ⟨b, 0, none⟩)] (fun x : Int => #[.int .i64 x]) (KeepAt (fun k => k = b ∨ lv.ownBlock = some k)) (fun ys => ys = changesT t0 0 tl) (fun _ => True) (changesT t0 0 tl).length w := by
  intro l J Jx W hW hJ hJx hY h0
  have hb : b < w.heap.size := World.block_lt_of_cell? w _ hc
  have HK0 : Hid (KeepAt (fun k => k = b ∨ lv.ownBlock = some k) w W) := fun k hk => hW.block k (by
    rcases hk with e | e
    · omega
    · exact hl.lt (by rw [els]; simp [i64s]) k e)
  have HC := Lib.hid hc; have HL := Lib.hid hl
  have HJ := Lib.hid hJ; have HEL := Lib.hid els
  have HY := Lib.hid hY; have HN : Hid (ls.length = tl.length + 1) := by show _ = _; rw [els]; rfl
  have hmax : (ls.length : Int) ≤ 9223372036854775807 := by have := hl.le; unfold maxLen at this; omega
  clear hc hJ els hY
  obtain ⟨p, c, hv⟩ := hl.shape
  subst hv
  clear hl
  obtain ⟨K, hK⟩ : ∃ K : Nat → Prop, (fun k => k = b ∨ (Value.slice p ls.length c).ownBlock = some k) = K := ⟨_, rfl⟩
  have HKb : Hid (K b) := by rw [← hK]; exact Or.inl rfl
  have HKv : Hid (∀ k, (Value.slice p ls.length c).ownBlock = some k → K k) := by rw [← hK]; exact fun k hk => Or.inr hk
  rw [hK] at HK0 HY
  clear hK
  refine callsIn_of_wp Tryd.func40 rfl trivial ?_ rfl
  simp only [Tryd.ntmps40, List.size_toArray, List.length_cons, List.length_nil, Nat.reduceAdd, Nat.reduceSub, Array.replicate_succ, Array.replicate_zero, List.push_toArray, List.append_toArray, List.nil_append, List.cons_append]
  gi_wp2
  gi_loopw [3, 4] (fun dv iv wr => ∃ (i k : Nat) (pre : List Int) (last d : Int), i = k + 1 ∧ i ≤ ls.length ∧ iv = .int .i64 (i : Int) ∧ dv = .int .i64 d ∧ Hid (ls[k]? = some last ∧ changesT t0 0 tl = pre ++ changesT last d (ls.drop i)) ∧ Hid (J pre wr ∧ KeepAt K w wr)) (fun _ iv _ => ls.length - (intOf iv).toNat)
  case atStart => exact ⟨1, 0, [], t0, 0, rfl, by rw [HN.out]; omega, rfl, rfl, by rw [HEL.out]; exact ⟨rfl, rfl⟩, h0, HK0.out⟩
  case round =>
    obtain ⟨i, k, pre, last, d, hik, h2, rfl, rfl, HP, HI⟩ := hrel
    have cb := (HI.out.2.cell HKb.out 0).trans HC.out
    by_cases h : i < ls.length
    · have hlt : (i : Int) < (ls.length : Int) := by omega
      have hi1 : (i : Int) - 1 = (k : Int) := by omega
      have hkl : (k : Int) < (ls.length : Int) := by omega
      have HR := Lib.hid (HI.out.2.rd HL.out HKv.out)
      obtain ⟨b0, off, c', e, _, _, hcl⟩ := HR.out.at (fun e => by have := congrArg List.length e; rw [i64s_length] at this; simp at this; subst this; simp at h)
      simp only [Value.slice.injEq] at e
      obtain ⟨rfl, _, rfl⟩ := e
      have c1 := hcl i (.int .i64 ls[i]) (by simp [i64s, h])
      have c2 := hcl k (.int .i64 last) (by rw [i64s, List.getElem?_map, HP.out.1]; rfl)
      have HD : Hid (ls.drop i = ls[i] :: ls.drop (i + 1)) := List.drop_eq_getElem_cons h
      have HLi : Hid (ls[i]? = some ls[i]) := List.getElem?_eq_getElem h
      generalize ls[i] = t at *
      clear hcl HR hik
      gi_wp2
      refine wpIn_wide.2 ?_
      go_quiet (fail)
      have HI2 : Hid (J pre (wr.drewN nq) ∧ KeepAt K w (wr.drewN nq)) := ⟨HJ.out pre wr _ none HI.out.1 (grown_drewN wr nq) (fun r e => by cases e), HI.out.2⟩
      clear HI cb c1 c2 hi1 hkl
      have hex : Hid (changesT t0 0 tl = pre ++ wrap64 (wrap64 (t - last) - d) :: changesT t (wrap64 (t - last)) (ls.drop (i + 1))) := by
        have := HP.out.2
        rw [HD.out, changesT] at this
        exact this
      obtain ⟨fn, tmps, assign, body, hyl, hR⟩ := HY.out pre (wrap64 (wrap64 (t - last) - d)) (wr.drewN nq) HI2.out.1 (by rw [hex.out, List.length_append, List.length_cons]; omega)
      have hex2 : Hid (changesT t0 0 tl = (pre ++ [wrap64 (wrap64 (t - last) - d)]) ++ changesT t (wrap64 (t - last)) (ls.drop (i + 1))) := by show _ = _; rw [hex.out, List.append_assoc]; rfl
      have hRH := Lib.hid hR
      clear HP HD hR hex
      generalize wr.drewN nq = wy at *
      gi_wp2
      refine hRH.out.mono ?_
      rintro e W3 (⟨rfl, hJ3, hk3⟩ | ⟨rfl, hJx3⟩)
      · have HI3 := Lib.hid (And.intro hJ3 (keepAt_t HI2.out.2 hk3))
        clear hJ3 hk3
        gi_wp2
        go_roundw
        case rel => exact ⟨i + 1, i, _, t, wrap64 (t - last), rfl, by omega, by go_num, rfl, ⟨HLi.out, hex2.out⟩, HI3.out⟩
        case measure => simp [intOf]; omega
      · gi_wp2
        refine bodyPost_ret (results_none rfl _ _ _) rfl ?_
        exact ⟨⟨_, rfl⟩, .inr ⟨_, trivial, hJx3⟩⟩
    · have hlt : ¬ (i : Int) < (ls.length : Int) := by omega
      have HE : Hid (changesT t0 0 tl = pre) := by
        show _ = _
        rw [HP.out.2, List.drop_of_length_le (by omega), changesT, List.append_nil]
      clear HP hik
      gi_wp2
      go_end0
      refine ⟨⟨_, rfl⟩, .inl ?_⟩
      have := HI.out.1
      rw [← HE.out] at this
      exact this
end Go.Proofs.YtjgiaibpipgjjaaDoor
