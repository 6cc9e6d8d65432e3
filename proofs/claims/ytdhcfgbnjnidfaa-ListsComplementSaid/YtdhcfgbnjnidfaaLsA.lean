/- Layer 14: the program's function that yields the numbers of two sorted lists, each with its origin. (Written by gen14i.py.) -/
import Derived.Test.YtdhcfgbnjnidfaaLsP
import Derived.Test.YtdhcfgbnjnidfaaI64s
import Derived.Test.YtdhcfgbnjnidfaaOwn1
import Derived.Test.YtdhcfgbnjnidfaaMade
import Derived.Test.YtdhcfgbnjnidfaaKeep
set_option linter.unusedVariables false
set_option maxRecDepth 100000
namespace Go.Proofs.Ytdhcfgbnjnidfaa
open Go Go.RowKit Go.Shelf
attribute [local go_sem] Oper.semAt_some

theorem new_merge (p q : Option Addr) (m k c d : Nat) (w : World) (n : Nat) :
    CallsIn Fence.wide n Try.prog 32 #[.slice p m c, .slice q k d] w fun e w' => e = .returned (.func (.func 33) #[] #[.pointer (some ⟨w.heap.size, 0, none⟩), .pointer (some ⟨w.heap.size + 1, 0, none⟩)]) ∧ w' = (w.alloc (.cells #[.slice p m c] 22)).alloc (.cells #[.slice q k d] 22) := by
  refine callsIn_wide.2 ?_
  go_enter Try.func32, Try.ntmps32
  go_wp2_with fail
  go_ret
  exact ⟨by simp, rfl⟩

/-- What an iterator over the lists av and bv, boxed at x and y, must find unturned. -/
def KeepZ (x y : Nat) (av bv : Value) (a b : List Int) : Nat → Prop := fun k => (k = x ∨ (a ≠ [] ∧ av.ownBlock = some k)) ∨ (k = y ∨ (b ≠ [] ∧ bv.ownBlock = some k))
theorem keepZ_lt {x y : Nat} {av bv : Value} {a b : List Int} {w : World} (hx : x < w.heap.size) (hy : y < w.heap.size) (ha : Rd w 1 av a.length (i64s a)) (hb : Rd w 1 bv b.length (i64s b)) : ∀ k, KeepZ x y av bv a b k → k < w.heap.size := fun k hk => by
  rcases hk with (e | ⟨h, e⟩) | (e | ⟨h, e⟩)
  · omega
  · exact ha.lt (fun e => h (by have := congrArg List.length e; rw [i64s_length] at this; exact List.eq_nil_of_length_eq_zero this)) k e
  · omega
  · exact hb.lt (fun e => h (by have := congrArg List.length e; rw [i64s_length] at this; exact List.eq_nil_of_length_eq_zero this)) k e
/-- A number of a list that is read, once more. -/
theorem keepZ_at {w : World} {p : Option Addr} {n c : Nat} {l : List Int} (h : Rd w 1 (.slice p n c) l.length (i64s l)) {i : Nat} (hi : i < l.length) : ∃ b off, p = some ⟨b, off, none⟩ ∧ w.cell? ⟨b, off + i, none⟩ = some (.int .i64 l[i]) := by
  obtain ⟨b, off, c', e, _, _, hc⟩ := h.at (fun e => by have := congrArg List.length e; rw [i64s_length] at this; rw [this] at hi; simp at hi)
  simp only [Value.slice.injEq] at e
  exact ⟨b, off, e.1, hc i _ (i64s_get l i hi)⟩

set_option maxHeartbeats 4000000 in
theorem merge_gives (n : Nat) (hn : 1 ≤ n) (bx bY : Nat) (av bv : Value) (a b : List Int) (w : World) (hca : w.cell? ⟨bx, 0, none⟩ = some av) (hcb : w.cell? ⟨bY, 0, none⟩ = some bv) (ha : Rd w 1 av a.length (i64s a)) (hb : Rd w 1 bv b.length (i64s b)) :
    SeqStopsK Fence.wide n Try.prog 33 #[.pointer (some ⟨bx, 0, none⟩), .pointer (some ⟨bY, 0, none⟩)] (fun x : Int × Og => #[.int .i64 x.1, .int .i64 x.2.z]) (KeepAt (KeepZ bx bY av bv a b)) (fun ys => ys = mrgZ a b) (fun _ => True) (mrgZ a b).length w := by
  intro l J Jx W hW hJ hJx hY h0
  have hbx : bx < w.heap.size := World.block_lt_of_cell? w _ hca
  have hby : bY < w.heap.size := World.block_lt_of_cell? w _ hcb
  have HK0 : Hid (KeepAt (KeepZ bx bY av bv a b) w W) := fun k hk => hW.block k (keepZ_lt hbx hby ha hb k hk)
  have HCa := Lib.hid hca; have HCb := Lib.hid hcb; have HA := Lib.hid ha; have HB := Lib.hid hb
  have HJ := Lib.hid hJ; have HY := Lib.hid hY
  have hma : (a.length : Int) ≤ 9223372036854775807 := by have := ha.le; unfold maxLen at this; omega
  have hmb : (b.length : Int) ≤ 9223372036854775807 := by have := hb.le; unfold maxLen at this; omega
  clear hca hcb hJ hY
  obtain ⟨p, c, hv⟩ := ha.shape
  subst hv
  obtain ⟨q, d, hv⟩ := hb.shape
  subst hv
  clear ha hb
  obtain ⟨K, hK⟩ : ∃ K : Nat → Prop, KeepZ bx bY (.slice p a.length c) (.slice q b.length d) a b = K := ⟨_, rfl⟩
  have HKa : Hid (K bx) := by rw [← hK]; exact Or.inl (Or.inl rfl)
  have HKb : Hid (K bY) := by rw [← hK]; exact Or.inr (Or.inl rfl)
  have HKp : Hid (a ≠ [] → ∀ k, (Value.slice p a.length c).ownBlock = some k → K k) := by rw [← hK]; exact fun h k hk => Or.inl (Or.inr ⟨h, hk⟩)
  have HKq : Hid (b ≠ [] → ∀ k, (Value.slice q b.length d).ownBlock = some k → K k) := by rw [← hK]; exact fun h k hk => Or.inr (Or.inr ⟨h, hk⟩)
  rw [hK] at HK0 HY
  clear hK
  refine callsIn_of_wp Try.func33 rfl trivial ?_ rfl
  simp only [Try.ntmps33, List.size_toArray, List.length_cons, List.length_nil, Nat.reduceAdd, Nat.reduceSub, Array.replicate_succ, Array.replicate_zero, List.push_toArray, List.append_toArray, List.nil_append, List.cons_append]
  gi_wp2
  gi_loopw [4, 5] (fun iv jv wr => ∃ (i j : Nat) (pre : List (Int × Og)), i ≤ a.length ∧ j ≤ b.length ∧ iv = .int .i64 (i : Int) ∧ jv = .int .i64 (j : Int) ∧ Hid (mrgZ a b = pre ++ mrgZ (a.drop i) (b.drop j)) ∧ Hid (J pre wr ∧ KeepAt K w wr)) (fun iv jv _ => a.length + b.length - ((intOf iv).toNat + (intOf jv).toNat))
  case atStart => exact ⟨0, 0, [], Nat.zero_le _, Nat.zero_le _, rfl, rfl, rfl, h0, HK0.out⟩
  case round =>
    obtain ⟨i, j, pre, hi, hj, rfl, rfl, HP, HI⟩ := hrel
    have HcA : Hid (∀ w', KeepAt K w w' → w'.cell? ⟨bx, 0, none⟩ = some (.slice p a.length c)) := fun w' h => (h.cell HKa.out 0).trans HCa.out
    have HcB : Hid (∀ w', KeepAt K w w' → w'.cell? ⟨bY, 0, none⟩ = some (.slice q b.length d)) := fun w' h => (h.cell HKb.out 0).trans HCb.out
    have him : (i : Int) ≤ 9223372036854775807 := by omega
    have hjm : (j : Int) ≤ 9223372036854775807 := by omega
    by_cases h : i < a.length
    · have hlt : (i : Int) < (a.length : Int) := by omega
      have HAx : Hid (∃ b0 off, p = some ⟨b0, off, none⟩ ∧ ∀ w', KeepAt K w w' → w'.cell? ⟨b0, off + i, none⟩ = some (.int .i64 (a[i]'h))) := by
        have hne : a ≠ [] := fun e => by rw [e] at h; simp at h
        obtain ⟨b0, off, e, _⟩ := keepZ_at HA.out h
        refine ⟨b0, off, e, fun w' hk => ?_⟩
        obtain ⟨b1, off1, e1, h2⟩ := keepZ_at (hk.rd HA.out (HKp.out hne)) h
        rw [e] at e1
        simp only [Option.some.injEq, Addr.mk.injEq] at e1
        obtain ⟨rfl, rfl, _⟩ := e1
        exact h2
      have HDa : Hid (a.drop i = (a[i]'h) :: a.drop (i + 1)) := List.drop_eq_getElem_cons h
      generalize a[i]'h = x at *
      obtain ⟨b0, off, rfl, hcx⟩ := HAx.out
      have HCx := Lib.hid hcx
      clear hcx HAx
      by_cases g : j < b.length
      · have glt : (j : Int) < (b.length : Int) := by omega
        have hjb : ((j : Int) == (b.length : Int)) = false := by rw [beq_eq_false_iff_ne]; omega
        have HBx : Hid (∃ b1 of1, q = some ⟨b1, of1, none⟩ ∧ ∀ w', KeepAt K w w' → w'.cell? ⟨b1, of1 + j, none⟩ = some (.int .i64 (b[j]'g))) := by
          have hne : b ≠ [] := fun e => by rw [e] at g; simp at g
          obtain ⟨b0, off, e, _⟩ := keepZ_at HB.out g
          refine ⟨b0, off, e, fun w' hk => ?_⟩
          obtain ⟨b1, off1, e1, h2⟩ := keepZ_at (hk.rd HB.out (HKq.out hne)) g
          rw [e] at e1
          simp only [Option.some.injEq, Addr.mk.injEq] at e1
          obtain ⟨rfl, rfl, _⟩ := e1
          exact h2
        have HDb : Hid (b.drop j = (b[j]'g) :: b.drop (j + 1)) := List.drop_eq_getElem_cons g
        generalize b[j]'g = y at *
        obtain ⟨b1, of1, rfl, hcy⟩ := HBx.out
        have HCy := Lib.hid hcy
        clear hcy HBx
        by_cases hxy : x < y
        · have hex : Hid (mrgZ a b = (pre ++ [(x, Og.fst)]) ++ mrgZ (a.drop (i + 1)) (b.drop (j))) := by
            show _ = _
            have := HP.out
            rw [HDa.out, HDb.out, mrgZ_lt _ _ hxy, ← HDb.out] at this
            rw [this, List.append_assoc]; rfl
          have hpl : pre.length < (mrgZ a b).length := by rw [hex.out, List.length_append, List.length_append, List.length_singleton]; omega
          clear HDa HDb HP
          have cA := HcA.out _ HI.out.2; have cB := HcB.out _ HI.out.2; have dx := HCx.out _ HI.out.2; have dy := HCy.out _ HI.out.2
          gi_wp2
          refine wpIn_wide.2 ?_
          go_quiet (fail)
          have HI1 : Hid (J pre (wr.drewN nq) ∧ KeepAt K w (wr.drewN nq)) := ⟨HJ.out pre wr _ none HI.out.1 (grown_drewN wr nq) (fun r e => by cases e), HI.out.2⟩
          clear cA cB dx dy
          clear HI
          generalize wr.drewN nq = wy at *
          have cA1 := HcA.out _ HI1.out.2; have cB1 := HcB.out _ HI1.out.2; have dx1 := HCx.out _ HI1.out.2; have dy1 := HCy.out _ HI1.out.2
          gi_wp2
          obtain ⟨fn, tmps, assign, body, hyl, hR⟩ := HY.out pre (x, Og.fst) _ HI1.out.1 hpl
          simp only [Og.z] at hyl
          have hRH := Lib.hid hR
          clear cA1 cB1 dx1 dy1
          clear hR hpl
          gi_wp2
          rw [hyl]
          gi_wp2
          refine hRH.out.mono ?_
          rintro e W3 (⟨rfl, hJ3, hk3⟩ | ⟨rfl, hJx3⟩)
          · have HI3 := Lib.hid (And.intro hJ3 (keepAt_t HI1.out.2 hk3))
            clear hJ3 hk3
            gi_wp2
            go_roundw
            case rel => exact ⟨i + 1, j, _, by omega, by omega, by go_num, by go_num, hex.out, HI3.out⟩
            case measure => simp [intOf]; omega
          · gi_wp2
            refine bodyPost_ret (results_none rfl _ _ _) rfl ?_
            exact ⟨⟨_, rfl⟩, .inr ⟨_, trivial, hJx3⟩⟩
        · by_cases hyx : y < x
          · have hia : ((i : Int) == (a.length : Int)) = false := by rw [beq_eq_false_iff_ne]; omega
            have hex : Hid (mrgZ a b = (pre ++ [(y, Og.snd)]) ++ mrgZ (a.drop (i)) (b.drop (j + 1))) := by
              show _ = _
              have := HP.out
              rw [HDa.out, HDb.out, mrgZ_gt _ _ hxy hyx, ← HDa.out] at this
              rw [this, List.append_assoc]; rfl
            have hpl : pre.length < (mrgZ a b).length := by rw [hex.out, List.length_append, List.length_append, List.length_singleton]; omega
            clear HDa HDb HP
            have cA := HcA.out _ HI.out.2; have cB := HcB.out _ HI.out.2; have dx := HCx.out _ HI.out.2; have dy := HCy.out _ HI.out.2
            gi_wp2
            refine wpIn_wide.2 ?_
            go_quiet (fail)
            have HI1 : Hid (J pre (wr.drewN nq) ∧ KeepAt K w (wr.drewN nq)) := ⟨HJ.out pre wr _ none HI.out.1 (grown_drewN wr nq) (fun r e => by cases e), HI.out.2⟩
            clear cA cB dx dy
            clear HI
            generalize wr.drewN nq = wy at *
            have cA1 := HcA.out _ HI1.out.2; have cB1 := HcB.out _ HI1.out.2; have dx1 := HCx.out _ HI1.out.2; have dy1 := HCy.out _ HI1.out.2
            gi_wp2
            refine wpIn_wide.2 ?_
            go_quiet (fail)
            have HI2 : Hid (J pre (wy.drewN nq) ∧ KeepAt K w (wy.drewN nq)) := ⟨HJ.out pre wy _ none HI1.out.1 (grown_drewN wy nq) (fun r e => by cases e), HI1.out.2⟩
            clear cA1 cB1 dx1 dy1
            clear HI1
            generalize wy.drewN nq = wz at *
            have cA2 := HcA.out _ HI2.out.2; have cB2 := HcB.out _ HI2.out.2; have dx2 := HCx.out _ HI2.out.2; have dy2 := HCy.out _ HI2.out.2
            gi_wp2
            obtain ⟨fn, tmps, assign, body, hyl, hR⟩ := HY.out pre (y, Og.snd) _ HI2.out.1 hpl
            simp only [Og.z] at hyl
            have hRH := Lib.hid hR
            clear cA2 cB2 dx2 dy2
            clear hR hpl
            gi_wp2
            rw [hyl]
            gi_wp2
            refine hRH.out.mono ?_
            rintro e W3 (⟨rfl, hJ3, hk3⟩ | ⟨rfl, hJx3⟩)
            · have HI3 := Lib.hid (And.intro hJ3 (keepAt_t HI2.out.2 hk3))
              clear hJ3 hk3
              gi_wp2
              go_roundw
              case rel => exact ⟨i, j + 1, _, by omega, by omega, by go_num, by go_num, hex.out, HI3.out⟩
              case measure => simp [intOf]; omega
            · gi_wp2
              refine bodyPost_ret (results_none rfl _ _ _) rfl ?_
              exact ⟨⟨_, rfl⟩, .inr ⟨_, trivial, hJx3⟩⟩
          · have hia : ((i : Int) == (a.length : Int)) = false := by rw [beq_eq_false_iff_ne]; omega
            have hex : Hid (mrgZ a b = (pre ++ [(x, Og.both)]) ++ mrgZ (a.drop (i + 1)) (b.drop (j + 1))) := by
              show _ = _
              have := HP.out
              rw [HDa.out, HDb.out, mrgZ_eq _ _ hxy hyx] at this
              rw [this, List.append_assoc]; rfl
            have hpl : pre.length < (mrgZ a b).length := by rw [hex.out, List.length_append, List.length_append, List.length_singleton]; omega
            clear HDa HDb HP
            have cA := HcA.out _ HI.out.2; have cB := HcB.out _ HI.out.2; have dx := HCx.out _ HI.out.2; have dy := HCy.out _ HI.out.2
            gi_wp2
            refine wpIn_wide.2 ?_
            go_quiet (fail)
            have HI1 : Hid (J pre (wr.drewN nq) ∧ KeepAt K w (wr.drewN nq)) := ⟨HJ.out pre wr _ none HI.out.1 (grown_drewN wr nq) (fun r e => by cases e), HI.out.2⟩
            clear cA cB dx dy
            clear HI
            generalize wr.drewN nq = wy at *
            have cA1 := HcA.out _ HI1.out.2; have cB1 := HcB.out _ HI1.out.2; have dx1 := HCx.out _ HI1.out.2; have dy1 := HCy.out _ HI1.out.2
            gi_wp2
            refine wpIn_wide.2 ?_
            go_quiet (fail)
            have HI2 : Hid (J pre (wy.drewN nq) ∧ KeepAt K w (wy.drewN nq)) := ⟨HJ.out pre wy _ none HI1.out.1 (grown_drewN wy nq) (fun r e => by cases e), HI1.out.2⟩
            clear cA1 cB1 dx1 dy1
            clear HI1
            generalize wy.drewN nq = wz at *
            have cA2 := HcA.out _ HI2.out.2; have cB2 := HcB.out _ HI2.out.2; have dx2 := HCx.out _ HI2.out.2; have dy2 := HCy.out _ HI2.out.2
            gi_wp2
            obtain ⟨fn, tmps, assign, body, hyl, hR⟩ := HY.out pre (x, Og.both) _ HI2.out.1 hpl
            simp only [Og.z] at hyl
            have hRH := Lib.hid hR
            clear cA2 cB2 dx2 dy2
            clear hR hpl
            gi_wp2
            rw [hyl]
            gi_wp2
            refine hRH.out.mono ?_
            rintro e W3 (⟨rfl, hJ3, hk3⟩ | ⟨rfl, hJx3⟩)
            · have HI3 := Lib.hid (And.intro hJ3 (keepAt_t HI2.out.2 hk3))
              clear hJ3 hk3
              gi_wp2
              go_roundw
              case rel => exact ⟨i + 1, j + 1, _, by omega, by omega, by go_num, by go_num, hex.out, HI3.out⟩
              case measure => simp [intOf]; omega
            · gi_wp2
              refine bodyPost_ret (results_none rfl _ _ _) rfl ?_
              exact ⟨⟨_, rfl⟩, .inr ⟨_, trivial, hJx3⟩⟩
      · have glt : ¬ (j : Int) < (b.length : Int) := by omega
        have hjb : ((j : Int) == (b.length : Int)) = true := by rw [beq_iff_eq]; omega
        have HDb : Hid (b.drop j = []) := List.drop_of_length_le (by omega)
        have hex : Hid (mrgZ a b = (pre ++ [(x, Og.fst)]) ++ mrgZ (a.drop (i + 1)) (b.drop (j))) := by
          show _ = _
          have := HP.out
          rw [HDa.out, HDb.out, mrgZ_a, ← HDb.out] at this
          rw [this, List.append_assoc]; rfl
        have hpl : pre.length < (mrgZ a b).length := by rw [hex.out, List.length_append, List.length_append, List.length_singleton]; omega
        clear HDa HDb HP
        have cA := HcA.out _ HI.out.2; have cB := HcB.out _ HI.out.2; have dx := HCx.out _ HI.out.2
        gi_wp2
        refine wpIn_wide.2 ?_
        go_quiet (fail)
        have HI1 : Hid (J pre (wr.drewN nq) ∧ KeepAt K w (wr.drewN nq)) := ⟨HJ.out pre wr _ none HI.out.1 (grown_drewN wr nq) (fun r e => by cases e), HI.out.2⟩
        clear cA cB dx
        clear HI
        generalize wr.drewN nq = wy at *
        have cA1 := HcA.out _ HI1.out.2; have cB1 := HcB.out _ HI1.out.2; have dx1 := HCx.out _ HI1.out.2
        gi_wp2
        obtain ⟨fn, tmps, assign, body, hyl, hR⟩ := HY.out pre (x, Og.fst) _ HI1.out.1 hpl
        simp only [Og.z] at hyl
        have hRH := Lib.hid hR
        clear cA1 cB1 dx1
        clear hR hpl
        gi_wp2
        rw [hyl]
        gi_wp2
        refine hRH.out.mono ?_
        rintro e W3 (⟨rfl, hJ3, hk3⟩ | ⟨rfl, hJx3⟩)
        · have HI3 := Lib.hid (And.intro hJ3 (keepAt_t HI1.out.2 hk3))
          clear hJ3 hk3
          gi_wp2
          go_roundw
          case rel => exact ⟨i + 1, j, _, by omega, by omega, by go_num, by go_num, hex.out, HI3.out⟩
          case measure => simp [intOf]; omega
        · gi_wp2
          refine bodyPost_ret (results_none rfl _ _ _) rfl ?_
          exact ⟨⟨_, rfl⟩, .inr ⟨_, trivial, hJx3⟩⟩
    · have hlt : ¬ (i : Int) < (a.length : Int) := by omega
      have hia : ((i : Int) == (a.length : Int)) = true := by rw [beq_iff_eq]; omega
      have HDa : Hid (a.drop i = []) := List.drop_of_length_le (by omega)
      by_cases g : j < b.length
      · have glt : (j : Int) < (b.length : Int) := by omega
        have hjb : ((j : Int) == (b.length : Int)) = false := by rw [beq_eq_false_iff_ne]; omega
        have HBx : Hid (∃ b1 of1, q = some ⟨b1, of1, none⟩ ∧ ∀ w', KeepAt K w w' → w'.cell? ⟨b1, of1 + j, none⟩ = some (.int .i64 (b[j]'g))) := by
          have hne : b ≠ [] := fun e => by rw [e] at g; simp at g
          obtain ⟨b0, off, e, _⟩ := keepZ_at HB.out g
          refine ⟨b0, off, e, fun w' hk => ?_⟩
          obtain ⟨b1, off1, e1, h2⟩ := keepZ_at (hk.rd HB.out (HKq.out hne)) g
          rw [e] at e1
          simp only [Option.some.injEq, Addr.mk.injEq] at e1
          obtain ⟨rfl, rfl, _⟩ := e1
          exact h2
        have HDb : Hid (b.drop j = (b[j]'g) :: b.drop (j + 1)) := List.drop_eq_getElem_cons g
        generalize b[j]'g = y at *
        obtain ⟨b1, of1, rfl, hcy⟩ := HBx.out
        have HCy := Lib.hid hcy
        clear hcy HBx
        have hex : Hid (mrgZ a b = (pre ++ [(y, Og.snd)]) ++ mrgZ (a.drop (i)) (b.drop (j + 1))) := by
          show _ = _
          have := HP.out
          rw [HDa.out, HDb.out, mrgZ_b, ← HDa.out] at this
          rw [this, List.append_assoc]; rfl
        have hpl : pre.length < (mrgZ a b).length := by rw [hex.out, List.length_append, List.length_append, List.length_singleton]; omega
        clear HDa HDb HP
        have cA := HcA.out _ HI.out.2; have cB := HcB.out _ HI.out.2; have dy := HCy.out _ HI.out.2
        gi_wp2
        refine wpIn_wide.2 ?_
        go_quiet (fail)
        have HI1 : Hid (J pre (wr.drewN nq) ∧ KeepAt K w (wr.drewN nq)) := ⟨HJ.out pre wr _ none HI.out.1 (grown_drewN wr nq) (fun r e => by cases e), HI.out.2⟩
        clear cA cB dy
        clear HI
        generalize wr.drewN nq = wy at *
        have cA1 := HcA.out _ HI1.out.2; have cB1 := HcB.out _ HI1.out.2; have dy1 := HCy.out _ HI1.out.2
        gi_wp2
        refine wpIn_wide.2 ?_
        go_quiet (fail)
        have HI2 : Hid (J pre (wy.drewN nq) ∧ KeepAt K w (wy.drewN nq)) := ⟨HJ.out pre wy _ none HI1.out.1 (grown_drewN wy nq) (fun r e => by cases e), HI1.out.2⟩
        clear cA1 cB1 dy1
        clear HI1
        generalize wy.drewN nq = wz at *
        have cA2 := HcA.out _ HI2.out.2; have cB2 := HcB.out _ HI2.out.2; have dy2 := HCy.out _ HI2.out.2
        gi_wp2
        obtain ⟨fn, tmps, assign, body, hyl, hR⟩ := HY.out pre (y, Og.snd) _ HI2.out.1 hpl
        simp only [Og.z] at hyl
        have hRH := Lib.hid hR
        clear cA2 cB2 dy2
        clear hR hpl
        gi_wp2
        rw [hyl]
        gi_wp2
        refine hRH.out.mono ?_
        rintro e W3 (⟨rfl, hJ3, hk3⟩ | ⟨rfl, hJx3⟩)
        · have HI3 := Lib.hid (And.intro hJ3 (keepAt_t HI2.out.2 hk3))
          clear hJ3 hk3
          gi_wp2
          go_roundw
          case rel => exact ⟨i, j + 1, _, by omega, by omega, by go_num, by go_num, hex.out, HI3.out⟩
          case measure => simp [intOf]; omega
        · gi_wp2
          refine bodyPost_ret (results_none rfl _ _ _) rfl ?_
          exact ⟨⟨_, rfl⟩, .inr ⟨_, trivial, hJx3⟩⟩
      · have glt : ¬ (j : Int) < (b.length : Int) := by omega
        have hjb : ((j : Int) == (b.length : Int)) = true := by rw [beq_iff_eq]; omega
        have HDb : Hid (b.drop j = []) := List.drop_of_length_le (by omega)
        have HE : Hid (mrgZ a b = pre) := by
          have := HP.out
          rw [HDa.out, HDb.out, mrgZ_end, List.append_nil] at this
          exact this
        have cA := HcA.out _ HI.out.2; have cB := HcB.out _ HI.out.2
        clear HP HDa HDb
        gi_wp2
        go_end0
        refine ⟨⟨_, rfl⟩, .inl ?_⟩
        have := HI.out.1
        rw [← HE.out] at this
        exact this
end Go.Proofs.Ytdhcfgbnjnidfaa
