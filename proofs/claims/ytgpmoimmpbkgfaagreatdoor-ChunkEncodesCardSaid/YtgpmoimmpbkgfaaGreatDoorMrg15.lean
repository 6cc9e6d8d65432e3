/- CkG, Plan, CkH, CloneSam, CkI, Iface09, Laid09, Ref06A, in one text. -/
import Derived.Test.YtgpmoimmpbkgfaaGreatDoorMrg14
import Derived.Test.YtgpmoimmpbkgfaaGreatDoorMrg4
import Derived.Test.YtgpmoimmpbkgfaaGreatDoorMrg5
import Derived.OrdersIn
import Derived.Test.YtgpmoimmpbkgfaaGreatDoorMrg3
import Derived.Test.YtgpmoimmpbkgfaaGreatDoorRows
import Derived.Deep.Strs
import Derived.Lib.LaidTab
import Derived.LaidMore
import Derived.LaidHandle
import Derived.Lay
import Derived.OpenShut
import Derived.Test.YtgpmoimmpbkgfaaGreatDoorMrg1
import Derived.Test.YtgpmoimmpbkgfaaGreatDoorMrg2

section
/- Layer 9: the program's Decode. -/
set_option linter.unusedVariables false
set_option maxRecDepth 100000
namespace Go.Proofs.YtgpmoimmpbkgfaaGreatDoor
open Go Go.RowKit

structure DecIn (w wr : World) (p : Nat) (v : Value) (bs : List Nat) (r : List Bool) : Prop where
  bel : Below w.heap.size w wr
  ris : RIs p v bs r wr
  tb : T9 wr
theorem DecIn.below {w wr wr' : World} {p : Nat} {v : Value} {bs : List Nat} {r : List Bool} (h : DecIn w wr p v bs r) (hb : Below wr.heap.size wr wr') : DecIn w wr' p v bs r := ⟨h.bel.trans (hb.mono h.bel.size), h.ris.below hb, h.tb.below hb⟩
theorem DecIn.rp {w wr wr' : World} {p : Nat} {v : Value} {bs : List Nat} {r r' : List Bool} (h : DecIn w wr p v bs r) (hw : w.heap.size ≤ p ∧ G9 ≤ p) (hr : RP p v bs r' wr wr') : DecIn w wr' p v bs r' :=
  ⟨h.bel.trans (hr.2.below h.bel.size (fun k hk e => by omega)), hr.1, h.tb.rp hr hw.2⟩
theorem DecIn.lt {w wr : World} {p : Nat} {v : Value} {bs : List Nat} {r : List Bool} (h : DecIn w wr p v bs r) : p < wr.heap.size := h.ris.1.blk.lt
theorem end_ris (p : Nat) (v : Value) (bs : List Nat) (r : List Bool) (w : World) (h : RIs p v bs r w) :
    Calls Tryz.prog 37 #[.pointer (some ⟨p, 0, none⟩)] w fun e w' => e = .returned (.int .i64 (endR r)) ∧ Below w.heap.size w w' := by
  refine (rend p v _ bs w h.1).mono ?_
  rintro e w' ⟨rfl, d, rfl⟩
  refine ⟨?_, rfl, rfl, rfl, Nat.le_refl _, fun _ _ => rfl⟩
  have hl := h.len
  rw [endOf, endR, ← h.2, show 8 * bs.length - (8 * bs.length - r.length) = r.length by omega]

theorem endR_either (r : List Bool) : endR r = 0 ∨ endR r = 4 := by
  rw [endR]
  split
  · exact Or.inr rfl
  · split
    · exact Or.inl rfl
    · exact Or.inr rfl

set_option maxHeartbeats 8000000 in
theorem chunk_decode (bv : Value) (b : List Nat) (w : World) (hT : T9 w) (hb : Rd w 1 bv b.length (u8s b)) (h8 : ∀ x ∈ b, x < 256) (hn : b.length ≤ 1000000) :
    Calls Tryz.prog 19 #[bv] w fun e w' => ∃ r, e = .returned (.tuple #[r, .int .i64 ((decC b).2 : Int)]) ∧ Rd w' 2 r (decC b).1.length (samCells (decC b).1) ∧ Below w.heap.size w w' := by
  have HT := Lib.hid hT
  have HNw := Lib.hid (new_reader bv b w hb (by omega) h8)
  have HC := Lib.hid (decC_head b h8)
  have HKo := Lib.hid (@headK_ok (unpack b))
  obtain ⟨o, ho⟩ : ∃ o, decC b = o := ⟨_, rfl⟩
  rw [ho]
  rw [ho] at HC
  clear hT hb h8 hn ho
  go_enter Tryz.func19, Tryz.ntmps19
  go_wp2_with fail
  refine HNw.out.mono ?_
  rintro e w1 ⟨p, v, rfl, hR, hB, hp, _⟩
  have HP : Hid (w.heap.size ≤ p ∧ G9 ≤ p) := ⟨hp, by have := HT.out.low; omega⟩
  have HI1 : Hid (DecIn w w1 p v b (unpack b)) := ⟨hB, by have := ris_of hR; rwa [List.drop_zero] at this, HT.out.below hB⟩
  have HHd := Lib.hid (chunk_head p v b (unpack b) w1 HI1.out.ris)
  clear hR hB hp HNw
  generalize headK (unpack b) = K at *
  obtain ⟨⟨t, n, e0⟩, r⟩ := K
  generalize unpack b = bits at *
  simp only at HKo HHd
  go_wp2_with fail
  refine HHd.out.mono ?_
  rintro e w2 ⟨rfl, hP⟩
  have HI2 := Lib.hid (HI1.out.rp HP.out hP)
  clear hP HHd HI1
  by_cases he0 : e0 = 0
  · subst he0
    have HTg : Hid (1 ≤ t ∧ t ≤ 3 ∧ n ≤ 120) := HKo.out rfl
    have HC2 : Hid (o = decBody t n r) := by show _ = _; rw [HC.out]; rfl
    clear HC HKo
    have HGt := Lib.hid (get_times p v n b r w2 HI2.out.tb HI2.out.ris HP.out.2 (by have := HTg.out; omega))
    have HTv := Lib.hid (fun h => decT_inv n r h)
    obtain ⟨dT, hdT⟩ : ∃ dT, decT n r = dT := ⟨_, rfl⟩
    have HdT := Lib.hid hdT
    rw [hdT] at HGt HTv
    clear hdT
    go_wp2_with fail
    refine HGt.out.mono ?_
    rintro e w3 ⟨⟨tv, rfl, hTr, hTo⟩, hP⟩
    have HI3 := Lib.hid (HI2.out.rp HP.out hP)
    have HTr := Lib.hid hTr
    have HTo : Hid (∀ k, tv.ownBlock = some k → p < k) := fun k hk => by have := hTo k hk; have := HI2.out.lt; omega
    obtain ⟨pt, ct, he⟩ := hTr.shape
    subst he
    clear hTr hTo hP HGt HI2
    by_cases he1 : dT.e = 0
    · have hz1 : (dT.e : Int) = 0 := by omega
      obtain ⟨_, htl, _⟩ := HTv.out he1
      have HTl := Lib.hid htl
      have HC3 : Hid (o = if (valsC t n dT.r).e ≠ 0 then ([], (valsC t n dT.r).e) else
          if endR (valsC t n dT.r).r ≠ 0 then ([], 4) else
          if chooseC (valsC t n dT.r).x ≠ t then ([], 8) else (dT.x.zip (valsC t n dT.r).x, 0)) := by
        show _ = _
        rw [HC2.out, decBody, HdT.out, if_neg (fun h => h he1)]
      clear he1 htl HC2 HdT HTv
      generalize hEE : dT.e = E at *
      obtain ⟨dTe, X, R⟩ := dT
      simp only at HI3 HTr HTl HC3 hEE
      clear hEE
      go_wp2_with fail
      refine (encodings_any w3).mono ?_
      rintro e w4 ⟨rfl, hB⟩
      have HI4 := Lib.hid (HI3.out.below hB)
      have HTr4 := Lib.hid (HTr.out.below hB)
      have HGv := Lib.hid (gF_gets t ⟨HTg.out.1, HTg.out.2.1⟩ p v n b R w4 HI4.out.tb HI4.out.ris HP.out.2 (by have := HTg.out; omega))
      have HVi := Lib.hid (fun h => valsC_inv (tag := t) (n := n) (bs := R) h)
      have hcf := gF_call (t - 1)
      have HSub := Lib.hid (enc_sub t ⟨HTg.out.1, HTg.out.2.1⟩)
      clear hB HI3 HTr
      generalize szF (t - 1) = sf at *
      generalize pF (t - 1) = pf at *
      generalize gF (t - 1) = gf at *
      generalize valsC t n R = dV at *
      go_wp2_with (first
        | refine wpList_indexS strE encUnd rfl _ _ rfl encCells rfl t rfl (by have := HTg.out; omega) _ HSub.out ?_
        | refine wpList_fieldS Tryz.underlying57 2 2 rfl Tryz.underlying55 rfl rfl _ rfl [fnV sf, fnV pf, fnV gf] rfl (.func (.func gf) #[] #[]) rfl ?_)
      refine HGv.out.mono ?_
      rintro e w5 ⟨⟨vv, rfl, hVr, hVo⟩, hP⟩
      have HI5 := Lib.hid (HI4.out.rp HP.out hP)
      have HVr := Lib.hid hVr
      have HTr5 : Hid (Rd w5 1 (.slice pt X.length ct) X.length (i64s X)) := HTr4.out.mods hP.2 (fun k hk e => by have := HTo.out k hk; omega)
      obtain ⟨pv, cv, he⟩ := hVr.shape
      subst he
      clear hVr hVo hP HGv HI4 HTr4 hcf HSub
      by_cases he2 : dV.e = 0
      · have hz2 : (dV.e : Int) = 0 := by omega
        obtain ⟨_, hvl, _, hvk⟩ := HVi.out he2
        have HVl := Lib.hid hvl
        have HVk := Lib.hid hvk
        rw [if_neg (fun h => h he2)] at HC3
        clear he2 hvl hvk HVi
        generalize hEE : dV.e = E2 at *
        obtain ⟨dVe, Y, R2⟩ := dV
        simp only at HI5 HVr HVl HVk HC3 hEE
        clear hEE
        have HEn := Lib.hid (end_ris p v b R2 w5 HI5.out.ris)
        have HE4 : Hid (endR R2 = 0 ∨ endR R2 = 4) := by show _ ∨ _; exact endR_either R2
        generalize endR R2 = E3 at *
        go_wp2_with fail
        refine HEn.out.mono ?_
        rintro e w6 ⟨rfl, hB⟩
        have HI6 := Lib.hid (HI5.out.below hB)
        have HTr6 := Lib.hid (HTr5.out.below hB)
        have HVr6 := Lib.hid (HVr.out.below hB)
        clear hB HI5 HTr5 HVr HEn
        by_cases he3 : E3 = 0
        · subst he3
          rw [if_neg (fun h => h rfl)] at HC3
          have HCh := Lib.hid (chunk_choose _ Y w6 HI6.out.tb HVr6.out HVk.out (by rw [HVl.out]; have := HTg.out; omega))
          generalize chooseC Y = G at *
          go_wp2_with fail
          refine HCh.out.mono ?_
          rintro e w7 ⟨rfl, hB⟩
          have HI7 := Lib.hid (HI6.out.below hB)
          have HTr7 := Lib.hid (HTr6.out.below hB)
          have HVr7 := Lib.hid (HVr6.out.below hB)
          clear hB HI6 HTr6 HVr6 HCh
          by_cases he4 : G = t
          · subst he4
            rw [if_neg (fun h => h rfl)] at HC3
            have HUn := Lib.hid (chunk_unite _ _ X Y w7 HTr7.out HVr7.out (by rw [HVl.out, HTl.out]) (by rw [HTl.out]; have := HTg.out; omega))
            generalize X.zip Y = Z at *
            go_wp2_with fail
            refine HUn.out.mono ?_
            rintro e w8 ⟨rv, rfl, hR, hB⟩
            have HR := Lib.hid hR
            have HI8 := Lib.hid (HI7.out.bel.trans (hB.mono HI7.out.bel.size))
            obtain ⟨pr, cr, he⟩ := hR.shape
            subst he
            clear hR hB HI7 HTr7 HVr7 HUn
            go_wp2_with fail
            go_ret2
            rw [HC3.out]
            exact ⟨_, rfl, HR.out, HI8.out⟩
          · have he4' : ¬ (G : Int) = (t : Int) := by omega
            have hb4 : ((G : Int) == (t : Int)) = false := by rw [beq_eq_false_iff_ne]; exact he4'
            rw [if_pos he4] at HC3
            go_wp2_with fail
            go_ret2
            rw [HC3.out]
            exact ⟨_, rfl, Rd.nil _ _, HI7.out.bel⟩
        · have he4 : E3 = 4 := by have := HE4.out; omega
          subst he4
          rw [if_pos he3] at HC3
          go_wp2_with fail
          go_ret2
          rw [HC3.out]
          exact ⟨_, rfl, Rd.nil _ _, HI6.out.bel⟩
      · have hz2 : ¬ (dV.e : Int) = 0 := by omega
        have hb2 : ((dV.e : Int) == 0) = false := by rw [beq_eq_false_iff_ne]; exact hz2
        have HO : Hid (o = ([], dV.e)) := by show _ = _; rw [HC3.out, if_pos he2]
        generalize dV.e = E2 at *
        go_wp2_with fail
        go_ret2
        rw [HO.out]
        exact ⟨_, rfl, Rd.nil _ _, HI5.out.bel⟩
    · have hz1 : ¬ (dT.e : Int) = 0 := by omega
      have hb1 : ((dT.e : Int) == 0) = false := by rw [beq_eq_false_iff_ne]; exact hz1
      have HO : Hid (o = ([], dT.e)) := by show _ = _; rw [HC2.out, decBody, HdT.out, if_pos he1]
      generalize dT.e = E at *
      go_wp2_with fail
      go_ret2
      rw [HO.out]
      exact ⟨_, rfl, Rd.nil _ _, HI3.out.bel⟩
  · have hz0 : ¬ (e0 : Int) = 0 := by omega
    have hb0 : ((e0 : Int) == 0) = false := by rw [beq_eq_false_iff_ne]; exact hz0
    have HO : Hid (o = ([], e0)) := by show _ = _; rw [HC.out]; exact if_pos he0
    go_wp2_with fail
    go_ret2
    rw [HO.out]
    exact ⟨_, rfl, Rd.nil _ _, HI2.out.bel⟩
end Go.Proofs.YtgpmoimmpbkgfaaGreatDoor

end

section
/- A region that draws its order, walked by a plan: what may be taken first, what comes up alone, and two that may come up in either order. In the rounds of a range over a function, too. 's[i:j:k]' within a fence. No program in sight. -/
namespace Go.Proofs.YtgpmoimmpbkgfaaGreatDoor
open Go Go.RowKit

inductive Plan where
  | done
  | take (i : Nat) (p : Plan)
  | one (i : Nat) (p : Plan)
  | two (i j : Nat) (p q : Plan)

def planOk (md : Region.Mode) (ops : Array Oper) : Plan → Array Bool → Bool
  | .done, listed => (Region.ready md ops listed).isEmpty
  | .take i p, listed => Region.free md ops listed i && (Region.ready md ops listed).contains i && planOk md ops p (listed.setIfInBounds i true)
  | .one i p, listed => Region.ready md ops listed == [i] && planOk md ops p (listed.setIfInBounds i true)
  | .two i j p q, listed => Region.ready md ops listed == [i, j] && (planOk md ops p (listed.setIfInBounds i true) && planOk md ops q (listed.setIfInBounds j true))
def Plan.steps : Plan → Nat
  | .done => 0
  | .take _ p => p.steps + 1
  | .one _ p => p.steps + 1
  | .two _ _ p q => max p.steps q.steps + 1

/-- An operation of the region, by its number. -/
def wpNum (P : Program) (ops : Array Oper) (Q : Exit → Act → World → Prop) (i : Nat) (K : Act → World → Prop) (a : Act) (w : World) : Prop :=
  match ops[i]? with
  | none => False
  | some o => if Region.wanted o (yielded ops a.tmps) = true then o.wp P a w K Q else K (a.put o.dst undef) w
def wpPlan (P : Program) (ops : Array Oper) (Q : Exit → Act → World → Prop) : Plan → Act → World → Prop
  | .done, a, w => Q .normal a w
  | .take i p, a, w => match ops[i]? with
    | none => False
    | some o => if Region.wanted o (yielded ops a.tmps) = true then ∃ v, (∀ w, (execOp a.eval o).run P w = .ok (.value v) w) ∧ wpPlan P ops Q p (a.put o.dst v) w else wpPlan P ops Q p (a.put o.dst undef) w
  | .one i p, a, w => wpNum P ops Q i (wpPlan P ops Q p) a w
  | .two i j p q, a, w => wpNum P ops Q i (wpPlan P ops Q p) a w ∧ wpNum P ops Q j (wpPlan P ops Q q) a w

section
variable {P : Program} {ops : Array Oper} {Q : Exit → Act → World → Prop} {md : Region.Mode}
theorem wpOp_of_num {i : Nat} {K K' : Act → World → Prop} {a : Act} {w : World} (hK : ∀ a w, K a w → K' a w) (h : wpNum P ops Q i K a w) : wpOp P ops Q i K' a w := by
  unfold wpNum at h
  unfold wpOp
  cases ho : ops[i]? with
  | none => rw [ho] at h; exact h.elim
  | some o =>
    rw [ho] at h
    simp only at h ⊢
    split
    · next hw =>
      rw [if_pos hw] at h
      exact .inl (Oper.wp_mono hK h)
    · next hw =>
      rw [if_neg hw] at h
      exact hK _ _ h
theorem wpAny_of_plan (hs : Region.noSelect ops = true) (hQ : ∀ c (a a' : Act) w, a.defers = a'.defers → Q (.panic c) a w → Q (.panic c) a' w) : ∀ (p : Plan) (listed : Array Bool) (a : Act) (w : World) (fuel : Nat), p.steps ≤ fuel →
    planOk md ops p listed = true → wpPlan P ops Q p a w → wpAny P md ops Q fuel listed a w
  | .done, listed, a, w, fuel, _, hB, h => wpAny_done (by simpa [planOk] using hB) h fuel
  | .take i p, listed, a, w, 0, hf, _, _ => by simp [Plan.steps] at hf
  | .take i p, listed, a, w, fuel + 1, hf, hB, h => by
    have hf' : p.steps ≤ fuel := by simpa [Plan.steps] using hf
    simp only [planOk, Bool.and_eq_true] at hB
    unfold wpPlan at h
    cases ho : ops[i]? with
    | none => rw [ho] at h; exact h.elim
    | some o =>
      rw [ho] at h
      simp only at h
      by_cases hw : Region.wanted o (yielded ops a.tmps) = true
      · rw [if_pos hw] at h
        obtain ⟨v, hv, h⟩ := h
        exact wpAny_take ho hs hB.1.1 hB.1.2 (fun c a w h => hQ c _ _ w (put_defers _ _ _) h) (.inl ⟨hw, hv⟩) (wpAny_of_plan hs hQ p _ _ w fuel hf' hB.2 h)
      · rw [if_neg hw] at h
        exact wpAny_take ho hs hB.1.1 hB.1.2 (fun c a w h => hQ c _ _ w (put_defers _ _ _) h) (.inr ⟨by simpa using hw, rfl⟩) (wpAny_of_plan hs hQ p _ _ w fuel hf' hB.2 h)
  | .one i p, listed, a, w, 0, hf, _, _ => by simp [Plan.steps] at hf
  | .one i p, listed, a, w, fuel + 1, hf, hB, h => by
    have hf' : p.steps ≤ fuel := by simpa [Plan.steps] using hf
    simp only [planOk, Bool.and_eq_true, beq_iff_eq] at hB
    refine wpAny_all hB.1 (by simp) (fun j hj => ?_)
    obtain rfl : j = i := by simpa using hj
    exact wpOp_of_num (fun a w h => wpAny_of_plan hs hQ p _ a w fuel hf' hB.2 h) h
  | .two i j p q, listed, a, w, 0, hf, _, _ => by simp [Plan.steps] at hf
  | .two i j p q, listed, a, w, fuel + 1, hf, hB, h => by
    have hf' : max p.steps q.steps ≤ fuel := by simpa [Plan.steps] using hf
    simp only [planOk, Bool.and_eq_true, beq_iff_eq] at hB
    refine wpAny_all hB.1 (by simp) (fun m hm => ?_)
    have hm' : m = i ∨ m = j := by simpa using hm
    rcases hm' with rfl | rfl
    · exact wpOp_of_num (fun a w h => wpAny_of_plan hs hQ p _ a w fuel (by omega) hB.2.1 h) h.1
    · exact wpOp_of_num (fun a w h => wpAny_of_plan hs hQ q _ a w fuel (by omega) hB.2.2 h) h.2

/-- In a round, as everywhere. -/
theorem wpAnyIn_round {r n : Nat} (hQ : ¬ LetsOut Q) (hd : ∀ o ∈ ops.toList, ∀ c, o.op ≠ .defer c) : ∀ (fuel : Nat) (listed : Array Bool) (a : Act) (w : World), wpAny P md ops Q fuel listed a w → wpAnyIn (Fence.wide.inRound r) n P md ops Q fuel listed a w
  | 0, _, _, _, h => h
  | fuel + 1, listed, a, w, h => ⟨h.1, fun i hi => by
    have h2 := h.2 i hi
    unfold wpOp at h2
    unfold wpOpIn
    cases ho : ops[i]? with
    | none =>
      rw [ho] at h2
      exact wpAnyIn_round hQ hd fuel _ _ _ h2
    | some o =>
      rw [ho] at h2
      simp only at h2 ⊢
      have hmem : o ∈ ops.toList := by
        rw [← Array.getElem?_toList] at ho
        exact List.mem_of_getElem? ho
      split
      · next hw =>
        rw [if_pos hw] at h2
        rcases h2 with h2 | h2
        · exact operIn_round (hd o hmem) (fun a w => wpAnyIn_round hQ hd fuel _ a w) hQ h2
        · exact absurd h2.2 hQ
      · next hw =>
        rw [if_neg hw] at h2
        exact ⟨fun _ _ => trivial, wpAnyIn_round hQ hd fuel _ _ _ h2⟩⟩
theorem wpIn_region_plan {r n id : Nat} {a : Act} {w : World} (p : Plan) (hm : P.follows .mixedOrders = true) (hs : Region.noSelect ops = true) (hB : (decide (p.steps ≤ ops.size) && planOk .any ops p (Array.replicate ops.size false)) = true)
    (hl : ¬ LetsOut Q) (hd : ∀ o ∈ ops.toList, ∀ c, o.op ≠ .defer c) (hQ : ∀ c (a a' : Act) w, a.defers = a'.defers → Q (.panic c) a w → Q (.panic c) a' w) (h : wpPlan P ops Q p a w.drew) : (Code.region id ops true).wpIn (Fence.wide.inRound r) n P Q a w := by
  rw [Bool.and_eq_true] at hB
  exact wpIn_region_any hm (wpAnyIn_round hl hd _ _ _ _ (wpAny_of_plan hs hQ p _ _ _ _ (by simpa using hB.1) hB.2 h))
theorem wp_region_plan {id : Nat} {a : Act} {w : World} (p : Plan) (hm : P.follows .mixedOrders = true) (hs : Region.noSelect ops = true) (hB : (decide (p.steps ≤ ops.size) && planOk .any ops p (Array.replicate ops.size false)) = true)
    (hQ : ∀ c (a a' : Act) w, a.defers = a'.defers → Q (.panic c) a w → Q (.panic c) a' w) (h : wpPlan P ops Q p a w.drew) : (Code.region id ops true).wp P Q a w := by
  rw [Bool.and_eq_true] at hB
  exact wp_region_any hm (wpAny_of_plan hs hQ p _ _ _ _ (by simpa using hB.1) hB.2 h)

theorem plan_done {a : Act} {w : World} (h : Q .normal a w) : wpPlan P ops Q .done a w := h
theorem plan_take {i : Nat} {o : Oper} {p : Plan} {a : Act} {w : World} (ho : ops[i]? = some o) (hw : Region.wanted o (yielded ops a.tmps) = true) (v : Value) (hv : ∀ w, (execOp a.eval o).run P w = .ok (.value v) w) (h : wpPlan P ops Q p (a.put o.dst v) w) : wpPlan P ops Q (.take i p) a w := by
  unfold wpPlan
  simp only [ho, hw]
  exact ⟨v, hv, h⟩
theorem plan_one {i : Nat} {o : Oper} {p : Plan} {a : Act} {w : World} (ho : ops[i]? = some o) (hw : Region.wanted o (yielded ops a.tmps) = true) (h : ∀ K : Act → World → Prop, (∀ a w, wpPlan P ops Q p a w → K a w) → o.wp P a w K Q) : wpPlan P ops Q (.one i p) a w := by
  unfold wpPlan wpNum
  simp only [ho, hw]
  exact h _ (fun _ _ h => h)
theorem plan_run {i : Nat} {o : Oper} {p : Plan} {a : Act} {w : World} (ho : ops[i]? = some o) (hw : Region.wanted o (yielded ops a.tmps) = true) (v : Value) (w2 : World) (hr : (execOp a.eval o).run P w = .ok (.value v) w2) (h : wpPlan P ops Q p (a.put o.dst v) w2) : wpPlan P ops Q (.one i p) a w := by
  refine plan_one ho hw (fun K hK => ?_)
  unfold Oper.wp
  rw [hr]
  exact hK _ _ h
/-- 'append(s, x...)', alone. -/
theorem plan_extend {t e : TypeId} {sz bytes : Nat} (hE : Elem P t e sz bytes) {i : Nat} {o : Oper} {p : Plan} {a : Act} {w : World} (ho : ops[i]? = some o) (hw : Region.wanted o (yielded ops a.tmps) = true) (s x : Operand)
    (hop : o.op = .call { callee := .builtin .append, args := #[s, x], argTypes := #[t, t] }) {v v2 : Value} (hs : a.eval s = v) (hx : a.eval x = v2) {n m : Nat} {xs news : List Value} (hown : w.ownsRow 0 e sz v n xs) (hr : Rd w sz v2 m news) (h1 : ∀ u ∈ news, u.oneCell' = true) (hb : (n + m) * bytes ≤ 140737488355328 ∧ n + m ≤ maxLen)
    (h : ∀ v' w', w'.ownsRow 0 e sz v' (n + m) (xs ++ news) → Mods (fun k => v.ownBlock = some k) w w' → Fresh w.heap.size v v' → wpPlan P ops Q p (a.put o.dst v') w') : wpPlan P ops Q (.one i p) a w := by
  obtain ⟨v', w', hrun, h2, h3, h4⟩ := exec_extend hE w v v2 n m xs news hown hr h1 hb s x hop hs hx
  exact plan_run ho hw v' w' hrun (h v' w' h2 h3 h4)
theorem plan_two {i j : Nat} {p q : Plan} {a : Act} {w : World} (h1 : wpPlan P ops Q (.one i p) a w) (h2 : wpPlan P ops Q (.one j q) a w) : wpPlan P ops Q (.two i j p q) a w := ⟨h1, h2⟩
end

section
variable {P : Program} {ops : Array Oper} {rest : List Oper} {o : Oper} {a : Act} {w : World} {Q : Exit → Act → World → Prop} {n : Nat}
/-- An operation that yields a value, within the widest fence. -/
theorem wpListIn_run (hgd : Region.wanted o (yielded ops a.tmps) = true) (v : Value) (w2 : World) (hr : (execOp a.eval o).run P w = .ok (.value v) w2) (h : wpListIn Fence.wide n P ops Q rest (a.put o.dst v) w2) : wpListIn Fence.wide n P ops Q (o :: rest) a w := by
  unfold wpListIn
  rw [if_pos hgd]
  refine ⟨fun _ _ => trivial, ?_⟩
  show o.uponIn _ n P a _ Q ((o.semAt none a.eval).run P w)
  rw [Oper.semAt_none, hr]
  exact h
/-- What 's[i:k:k]' yields. -/
theorem exec_slice3 {t e : TypeId} {sz bytes : Nat} (hE : Elem P t e sz bytes) (w : World) (p : Option Addr) (m c i k : Nat) (hi : i < k) (hk : k ≤ c) {o : Oper} {a : Act} (s x y z : Operand) (ho : o.op = .slice t s (some x) (some y) (some z))
    (hs : a.eval s = .slice p m c) (hx : a.eval x = .int .i64 (i : Int)) (hy : a.eval y = .int .i64 (k : Int)) (hz : a.eval z = .int .i64 (k : Int)) : (execOp a.eval o).run P w = .ok (.value (.slice (p.map (·.add (i * sz))) (k - i) (k - i))) w := by
  obtain ⟨inf, z0, hinf, hz0, hsize, hby, hzs⟩ := hE.hi
  have helem : P.elem t = e := by simp [Program.elem, hE.ht]
  have hu : P.underlying t = some (.slice (P.elem t)) := by rw [helem]; exact hE.ht
  have hr : (Instr.sliceAt t (.slice p m c) (some (.int .i64 (i : Int))) (some (.int .i64 (k : Int))) (some (.int .i64 (k : Int)))).run P w = .ok (.slice (p.map (·.add (i * sz))) (k - i) (k - i)) w := by
    have hsz := run_sizeOf (w := w) (show P.info? (P.elem t) = some inf by rw [helem]; exact hinf)
    rw [run_sliceAt_slice (h := hu), run_slice_lhm (ht := hu) (h0 := by omega) (h1 := by omega) (h2 := by omega) (h3 := by omega), hsz]
    have hcell : P.cellsOf (P.elem t) = sz := by rw [helem]; simp [Program.cellsOf, hinf, hsize]
    have hne : ¬ k = i := by omega
    simp [Result.andThen, sliced, hne, hcell]
  unfold execOp
  simp only [ho, Sem.run_bind, Sem.run_pure, Result.andThen_ok, hs, hx, hy, hz, hr, Option.map_some]
/-- What 'min(x, y)' yields. -/
theorem exec_min (w : World) {o : Oper} {a : Act} (x y : Operand) (t1 t2 : TypeId) (X Y R : Int) (ho : o.op = .call { callee := .builtin .min, args := #[x, y], argTypes := #[t1, t2] }) (hx : a.eval x = .int .i64 X) (hy : a.eval y = .int .i64 Y) (hR : (if Y < X then Y else X) = R) : (execOp a.eval o).run P w = .ok (.value (.int .i64 R)) w := by
  subst hR
  unfold execOp
  simp only [ho, resolve, invoke, BigFrame.builtin_min, Sem.run_bind, Sem.run_pure, Result.andThen_ok, List.map_toArray, List.map_cons, List.map_nil, hx, hy, run_min_int2]
end
end Go.Proofs.YtgpmoimmpbkgfaaGreatDoor

end

section
/- Layer 9: the library's function that yields the parts of a list, 120 samples each. -/
set_option linter.unusedVariables false
set_option maxRecDepth 100000
namespace Go.Proofs.YtgpmoimmpbkgfaaGreatDoor
open Go Go.RowKit Go.Shelf
attribute [local go_sem] Oper.semAt_some

/-- The number of parts. -/
def cntC (L : Nat) : Nat := (L + 119) / 120
/-- The number of a part. -/
abbrev Pc (L : Nat) := { k : Nat // k * 120 < L }
def pnum {L : Nat} (x : Pc L) : Nat := x.1
def pnums {L : Nat} (l : List (Pc L)) : List Nat := l.map pnum
def partV (q : Option Addr) (L k : Nat) : Value := .slice (q.map (·.add (k * 120 * 2))) (min 120 (L - k * 120)) (min 120 (L - k * 120))

theorem new_chunk (p : Option Addr) (m c : Nat) (w : World) (n : Nat) :
    CallsIn Fence.wide n Tryz.prog 43 #[.slice p m c, .int .i64 120] w fun e w' => e = .returned (.func (.func 73) #[] #[.pointer (some ⟨w.heap.size, 0, none⟩), .pointer (some ⟨w.heap.size + 1, 0, none⟩)]) ∧ w' = (w.alloc (.cells #[.slice p m c] 29)).alloc (.cells #[.int .i64 120] 3) := by
  refine callsIn_wide.2 ?_
  go_enter Tryz.func43, Tryz.ntmps43
  go_wp2_with fail
  go_ret
  exact ⟨rfl, rfl⟩

set_option maxHeartbeats 2000000 in
theorem chunk_gives (n : Nat) (hn : 1 ≤ n) (b1 b2 : Nat) (q : Option Addr) (L c : Nat) (w : World) (hc : w.cell? ⟨b1, 0, none⟩ = some (.slice q L c)) (hd : w.cell? ⟨b2, 0, none⟩ = some (.int .i64 120)) (hL : L ≤ 1000000) (hLc : L ≤ c) (hcm : c ≤ maxLen) :
    SeqStopsK Fence.wide n Tryz.prog 73 #[.pointer (some ⟨b1, 0, none⟩), .pointer (some ⟨b2, 0, none⟩)] (fun x : Pc L => #[partV q L (pnum x)]) (KeepAt (fun k => k = b1 ∨ k = b2)) (fun ys => pnums ys = List.range (cntC L)) (fun _ => True) (cntC L) w := by
  intro l J Jx W hW hJ hJx hY h0
  have h1 : b1 < w.heap.size := World.block_lt_of_cell? w _ hc
  have h2 : b2 < w.heap.size := World.block_lt_of_cell? w _ hd
  have HK0 : Hid (KeepAt (fun k => k = b1 ∨ k = b2) w W) := fun k hk => hW.block k (by rcases hk with e | e <;> omega)
  have HC := Lib.hid hc; have HD := Lib.hid hd
  have HJ := Lib.hid hJ
  have HY := Lib.hid hY
  have HL : Hid (L ≤ 1000000 ∧ L ≤ c ∧ c ≤ maxLen) := ⟨hL, hLc, hcm⟩
  clear hc hd hJ hY h1 h2 hLc hcm
  obtain ⟨K, hK⟩ : ∃ K : Nat → Prop, (fun k => k = b1 ∨ k = b2) = K := ⟨_, rfl⟩
  have HKb : Hid (K b1 ∧ K b2) := by rw [← hK]; exact ⟨Or.inl rfl, Or.inr rfl⟩
  rw [hK] at HK0 HY
  clear hK
  refine callsIn_of_wp Tryz.func73 rfl trivial ?_ rfl
  simp only [Tryz.ntmps73, List.size_toArray, List.length_cons, List.length_nil, Nat.reduceAdd, Nat.reduceSub, Array.replicate_succ, Array.replicate_zero, List.push_toArray, List.append_toArray, List.nil_append, List.cons_append]
  gi_wp2
  gi_loopw [4] (fun iv wr => ∃ (k : Nat) (pre : List (Pc L)), k ≤ cntC L ∧ iv = .int .i64 ((k * 120 : Nat) : Int) ∧ Hid (pnums pre = List.range k) ∧ Hid (J pre wr ∧ KeepAt K w wr)) (fun iv _ => L + 120 - (intOf iv).toNat)
  case atStart => exact ⟨0, [], Nat.zero_le _, rfl, rfl, h0, HK0.out⟩
  case round =>
    obtain ⟨k, pre, hk, rfl, HP, HI⟩ := hrel
    have c1 := (HI.out.2.cell HKb.out.1 0).trans HC.out
    have c2 := (HI.out.2.cell HKb.out.2 0).trans HD.out
    obtain ⟨i, hi⟩ : ∃ i, k * 120 = i := ⟨_, rfl⟩
    have HIk := Lib.hid hi
    rw [hi]
    clear hi
    have hib : (i : Int) ≤ 1000200 := by have := HIk.out; have := HL.out; unfold cntC at hk; omega
    by_cases h : i < L
    · have hlt : (i : Int) < (L : Int) := by omega
      gi_wp2
      refine wpIn_wide.2 (wp_normal ?_)
      have HS : Hid (∀ w' : World, (w'.cell? ⟨b1, 0, none⟩ = some (.slice q L c) ∧ w'.cell? ⟨b2, 0, none⟩ = some (.int .i64 120) ∧ True) → (w'.cell? ⟨b1, 0, none⟩ = some (.slice q L c) ∧ w'.cell? ⟨b2, 0, none⟩ = some (.int .i64 120) ∧ True)) := fun _ h => h
      refine wp_region_takeH (fun w' : World => w'.cell? ⟨b1, 0, none⟩ = some (.slice q L c) ∧ w'.cell? ⟨b2, 0, none⟩ = some (.int .i64 120) ∧ True) [] [0, 1, 2, 3, 4, 5, 6] (by kernel_rfl) (by kernel_rfl) (by kernel_rfl) ?_ ?_ ?_
      · intro c a a' w hd h; cases h.1
      · exact ⟨c1, c2, trivial⟩
      clear c1 c2
      simp only [taken, List.map_cons, List.map_nil, List.getElem?_cons_succ, List.getElem?_cons_zero, Option.getD_some]
      repeat (first
        | (refine takeH_skip rfl ?_; simp only [Act.put, List.setIfInBounds_toArray, List.set_cons_succ, List.set_cons_zero])
        | (refine takeH_blind rfl rfl ?_; apply Exists.intro; refine ⟨fun w => ?_, ?_⟩; (go_simp; try with_reducible rfl); simp only [Act.put, List.setIfInBounds_toArray, List.set_cons_succ, List.set_cons_zero])
        | (refine takeH_reads rfl rfl ?_; apply Exists.intro; refine ⟨fun w' hS => ?_, ?_⟩; (obtain ⟨d0, d1, d2⟩ := HS.out w' hS; go_simp; try with_reducible rfl); simp only [Act.put, List.setIfInBounds_toArray, List.set_cons_succ, List.set_cons_zero]))
      refine takeH_blind rfl rfl ⟨_, fun w => exec_from elemSam w q L c i (by omega) _ _ rfl rfl rfl, ?_⟩
      obtain ⟨q2, c2', hs⟩ : ∃ q2 c2', sliced q i L c 2 = .slice q2 (L - i) c2' := ⟨_, _, rfl⟩
      rw [hs]
      clear hs
      simp only [Act.put, List.setIfInBounds_toArray, List.set_cons_succ, List.set_cons_zero]
      repeat (first
        | (refine takeH_skip rfl ?_; simp only [Act.put, List.setIfInBounds_toArray, List.set_cons_succ, List.set_cons_zero])
        | (refine takeH_blind rfl rfl ?_; apply Exists.intro; refine ⟨fun w => ?_, ?_⟩; (go_simp; try with_reducible rfl); simp only [Act.put, List.setIfInBounds_toArray, List.set_cons_succ, List.set_cons_zero])
        | (refine takeH_reads rfl rfl ?_; apply Exists.intro; refine ⟨fun w' hS => ?_, ?_⟩; (obtain ⟨d0, d1, d2⟩ := HS.out w' hS; go_simp; try with_reducible rfl); simp only [Act.put, List.setIfInBounds_toArray, List.set_cons_succ, List.set_cons_zero]))
      obtain ⟨E, hE⟩ : ∃ E, min 120 (L - i) = E := ⟨_, rfl⟩
      have hEm : (if ((L - i : Nat) : Int) < 120 then ((L - i : Nat) : Int) else 120) = (E : Int) := by
        rw [← hE]
        split <;> omega
      have HEn : Hid (1 ≤ E ∧ E ≤ 120 ∧ i + E ≤ L ∧ min 120 (L - i) = E) := by show _ ∧ _; omega
      first | rw [hEm] | rw [show min (120 : Int) ((L - i : Nat) : Int) = (E : Int) by omega]
      refine takeH_nil ⟨rfl, ?_⟩
      clear hEm hE HS
      obtain ⟨wy, hwy⟩ : ∃ wy, wr.drew = wy := ⟨_, rfl⟩
      have HI2 : Hid (J pre wy ∧ KeepAt K w wy) := by
        rw [← hwy]
        exact ⟨HJ.out pre wr _ none HI.out.1 (grown_drewN wr 1) (fun r e => by cases e), HI.out.2⟩
      rw [hwy]
      clear hwy HI
      have c1 := (HI2.out.2.cell HKb.out.1 0).trans HC.out
      have hE1 : (E : Int) ≤ 120 := by have := HEn.out; omega
      have HIE : Hid (i < i + E ∧ i + E ≤ c) := by have := HEn.out; have := HL.out; show _ ∧ _; omega
      have hkc : k < cntC L := by have := HIk.out; unfold cntC; omega
      obtain ⟨x, hxk⟩ : ∃ x : Pc L, pnum x = k := ⟨⟨k, by rw [HIk.out]; exact h⟩, rfl⟩
      have HPn : Hid (pnums (pre ++ [x]) = List.range (k + 1)) := by
        show List.map pnum (pre ++ [x]) = _
        rw [List.map_append, List.range_succ, show pre.map pnum = List.range k from HP.out]
        simp [hxk]
      have hpl : pre.length < cntC L := by
        have := congrArg List.length HP.out
        rw [pnums, List.length_map, List.length_range] at this
        omega
      have hpv : partV q L (pnum x) = .slice (q.map fun x => x.add (i * 2)) E E := by
        rw [hxk, partV, HIk.out, HEn.out.2.2.2]
      obtain ⟨fn, tmps, assign, body, hyl, hR⟩ := HY.out pre x wy HI2.out.1 hpl
      rw [hpv] at hyl
      have hRH := Lib.hid hR
      clear hR hpv hpl hxk HP
      gi_wp2_with (refine wpListIn_run rfl _ _ (exec_slice3 elemSam _ q L c i (i + E) HIE.out.1 HIE.out.2 _ _ _ _ rfl rfl rfl rfl rfl) ?_)
      refine hRH.out.mono ?_
      rintro e W3 (⟨rfl, hJ3, hk3⟩ | ⟨rfl, hJx3⟩)
      · have HI3 := Lib.hid (And.intro hJ3 (keepAt_t HI2.out.2 hk3))
        have c2 := (HI3.out.2.cell HKb.out.2 0).trans HD.out
        clear hJ3 hk3 c1
        gi_wp2
        go_roundw
        case rel => exact ⟨k + 1, pre ++ [x], by omega, by have := HIk.out; rw [show ((k + 1) * 120 : Nat) = i + 120 by omega]; go_num, HPn.out, HI3.out⟩
        case measure => simp [intOf]; omega
      · gi_wp2
        refine bodyPost_ret (results_none rfl _ _ _) rfl ?_
        exact ⟨⟨_, rfl⟩, .inr ⟨_, trivial, hJx3⟩⟩
    · have hlt : ¬ (i : Int) < (L : Int) := by omega
      have HE : Hid (k = cntC L) := by have := HIk.out; show _ = _; unfold cntC at hk ⊢; omega
      gi_wp2
      go_end0
      refine ⟨⟨_, rfl⟩, .inl ⟨pre, ?_, HI.out.1⟩⟩
      rw [← HE.out]
      exact HP.out
end Go.Proofs.YtgpmoimmpbkgfaaGreatDoor

end

section
/- Layer 9: slices.Clone of samples. -/
set_option linter.unusedVariables false
namespace Go.Proofs.YtgpmoimmpbkgfaaGreatDoor
open Go Go.RowKit

set_option maxHeartbeats 400000 in
/-- slices.Clone. -/
theorem clone_sam (v : Value) (l : List (Int × Nat)) (w : World) (h : Rd w 2 v l.length (samCells l)) (hn : l.length ≤ 8796093022208) :
    Calls Tryz.prog 14 #[v] w fun e w' => ∃ r, e = .returned r ∧ Made w w' 33 2 r l.length (samCells l) := by
  have hq : ∀ (w : World) (a : Option Addr) (n c n' c' : Nat), (binOp .eql 29 (.slice a n c) (.slice none n' c')).run Tryz.prog w = .ok (.bool a.isNone) w := fun w a n c n' c' => Lib.run_eql_slice_nil w _ _ a n c n' c' Tryz.underlying29
  obtain ⟨p, c, hv⟩ := h.shape
  subst hv
  cases p with
  | none =>
    obtain ⟨_, _, e, hl, _, _, hnil, _⟩ := h
    simp only [Value.slice.injEq] at e
    obtain ⟨rfl, _, rfl⟩ := e
    obtain ⟨h0, rfl⟩ := hnil rfl
    obtain rfl : l = [] := List.eq_nil_of_length_eq_zero h0
    go_enter Tryz.func14, Tryz.ntmps14
    go_wp2
    go_ret
    exact ⟨_, rfl, World.ownsRow_nil _ _ _ _, Below.refl _ _⟩
  | some ad =>
    have HB : Hid (Below w.heap.size w (w.alloc (.cells #[] 33))) := (Below.refl _ _).alloc (Nat.le_refl _) _
    have HR := Lib.hid (h.below HB.out)
    clear h
    have HO : Hid ((w.alloc (.cells #[] 33)).ownsRow 0 33 2 (.slice (some ⟨w.heap.size, 0, none⟩) 0 0) 0 []) := World.ownsRow_lit (base := 0) w #[] 0 (Nat.zero_le _) (by simp [maxLen]) (by simp)
    have HL : Hid ((0 + l.length) * 16 ≤ 140737488355328 ∧ 0 + l.length ≤ maxLen) := by show _ ∧ _; unfold maxLen; omega
    go_enter Tryz.func14, Tryz.ntmps14
    go_wp2_with (at_builtin; refine wpList_extend elemSam _ _ _ _ _ _ _ HO.out HR.out (samCells_one _) HL.out rfl _ _ rfl rfl rfl ?_)
    intro v' w1 hown hmods hfr
    have HM : Hid (Made w w1 33 2 v' l.length (samCells l)) := by
      refine ⟨?_, HB.out.trans (hmods.below HB.out.size (fun k hk e => by simp [Value.ownBlock] at e; omega))⟩
      try simp only [List.nil_append, Nat.zero_add] at hown
      exact owns_rebase hown (fun k hk => by
        rcases hfr k hk with e | e
        · simp [Value.ownBlock] at e; omega
        · have := HB.out.size; omega)
    clear hown hmods hfr
    go_wp2
    go_ret
    exact ⟨_, rfl, HM.out⟩
end Go.Proofs.YtgpmoimmpbkgfaaGreatDoor

end

section
/- Layer 9: the program's Split. -/
set_option linter.unusedVariables false
set_option linter.unusedSimpArgs false
set_option maxRecDepth 100000
namespace Go.Proofs.YtgpmoimmpbkgfaaGreatDoor
open Go Go.RowKit Go.Shelf
attribute [local go_sem] Oper.semAt_some

def partL (l : List (Int × Nat)) (k : Nat) : List (Int × Nat) := (l.drop (k * 120)).take 120
theorem partL_len (l : List (Int × Nat)) (k : Nat) : (partL l k).length = min 120 (l.length - k * 120) := by simp [partL]
theorem parts_take (l : List (Int × Nat)) (m : Nat) : ((List.range m).map (partL l)).flatten = l.take (m * 120) := by
  induction m with
  | zero => simp
  | succ m ih =>
    rw [List.range_succ, List.map_append, List.flatten_append, ih, show (m + 1) * 120 = m * 120 + 120 by omega, List.take_add]
    simp [partL]
theorem parts_c (l : List (Int × Nat)) : PartsC l ((List.range (cntC l.length)).map (partL l)) := by
  refine ⟨?_, fun p hp => ?_, fun i p hi hp => ?_⟩
  · rw [parts_take, List.take_of_length_le]
    unfold cntC; omega
  · obtain ⟨k, hk, rfl⟩ := List.mem_map.1 hp
    rw [List.mem_range] at hk
    rw [partL_len]
    unfold cntC at hk
    omega
  · rw [List.length_map, List.length_range] at hi
    rw [List.getElem?_map, List.getElem?_range (by omega)] at hp
    simp only [Option.map_some, Option.some.injEq] at hp
    subst hp
    rw [partL_len]
    unfold cntC at hi
    omega

theorem elemRow : Elem Tryz.prog 48 29 1 24 := Elem.mk' (z := .slice none 0 0) Tryz.underlying48 (by kernel_rfl) rfl (by decide)
theorem rd_abides {W W' : World} {row : Option Nat} {sz : Nat} {v : Value} {n : Nat} {xs : List Value} (h : Rd W sz v n xs) (hg : W.grownBy W' row) (hr : ∀ r, row = some r → ∃ o : Obj, W.heap[r]? = some o ∧ o.isCells = false) : Rd W' sz v n xs := by
  refine h.of_cells fun a u hu _ => ?_
  have hlt := World.block_lt_of_cell? W a hu
  have hne : some a.block ≠ row := fun e => by
    obtain ⟨o, ho, hc⟩ := hr a.block e.symm
    unfold World.cell? at hu
    rw [ho] at hu
    cases o <;> first | (cases hc; done) | (cases hu; done)
  rw [← hu]
  exact World.cell?_of_block (hg.block a.block hlt hne)
/-- The slice of a part. -/
theorem part_rd {w : World} {q : Option Addr} {L c : Nat} {l : List (Int × Nat)} (h : Rd w 2 (.slice q L c) L (samCells l)) (hl : l.length = L) (k : Nat) (hk : k * 120 < L) : Rd w 2 (partV q L k) (partL l k).length (samCells (partL l k)) := by
  obtain ⟨p, c', e, h1, h2, h3, h4, h5⟩ := h
  simp only [Value.slice.injEq] at e
  obtain ⟨rfl, _, rfl⟩ := e
  have hE : (partL l k).length = min 120 (L - k * 120) := by rw [partL_len, hl]
  refine ⟨q.map (·.add (k * 120 * 2)), min 120 (L - k * 120), by rw [hE]; rfl, samCells_length _, by omega, by omega, fun e => ?_, fun ad e j u hu => ?_⟩
  · have : q = none := by cases q with
      | none => rfl
      | some a => cases e
    have := h4 this
    omega
  · cases q with
    | none => cases e
    | some a0 =>
      simp only [Option.map_some, Option.some.injEq] at e
      subst e
      rw [Addr.add_add]
      refine h5 a0 rfl _ u ?_
      have hsp : l = l.take (k * 120) ++ (partL l k ++ (l.drop (k * 120)).drop 120) := by rw [partL, List.take_append_drop, List.take_append_drop]
      have hlen : (samCells (l.take (k * 120))).length = k * 120 * 2 := by rw [samCells_length, List.length_take]; omega
      have hj : j < (samCells (partL l k)).length := (List.getElem?_eq_some_iff.1 hu).1
      rw [hsp, samCells_append, samCells_append, List.getElem?_append_right (by omega), hlen, Nat.add_sub_cancel_left, List.getElem?_append_left hj]
      exact hu

theorem rd_one {w : World} {b : Nat} {u : Value} (h : Blk w b [u]) : Rd w 1 (.slice (some ⟨b, 0, none⟩) 1 1) 1 [u] := by
  refine ⟨_, _, rfl, rfl, Nat.le_refl _, by unfold maxLen; omega, (fun e => by cases e), fun ad e j y hy => ?_⟩
  cases e
  have e : (⟨b, 0, none⟩ : Addr).add j = ⟨b, j, none⟩ := by unfold Addr.add; split <;> simp_all
  rw [e, h.cell]
  exact hy
/-- Where Split stands between two rounds: g is the variable's block, B is above all that was there before the rounds. -/
def SpIn (g B : Nat) (w : World) (ps : List (List (Int × Nat))) (W : World) : Prop :=
  ∃ v' vs, Blk W g [v'] ∧ W.ownsRow B 29 1 v' vs.length vs ∧ PartsAt W vs ps ∧ (∀ u ∈ vs, ∀ k, u.ownBlock = some k → B ≤ k ∧ k < W.heap.size ∧ v'.ownBlock ≠ some k) ∧ Below g w W ∧ B ≤ W.heap.size
theorem spIn_own {β : Type} {B' g B : Nat} {w : World} (hB : g ≤ B') (f : β → List (List (Int × Nat))) : OwnFrom B' (fun s W => SpIn g B w (f s) W) := by
  rintro s W W' row ⟨v', vs, h1, h2, h3, h4, h5, h6⟩ hg hr
  have hr' : ∀ r, row = some r → ∃ o : Obj, W.heap[r]? = some o ∧ o.isCells = false := fun r e => (hr r e).2
  have hsz := hg.size
  exact ⟨v', vs, own_blk g (fun _ : Unit => [v']) () W W' row h1 hg hr', owns_abides h2 hg hr', ⟨h3.1, fun i v p hv hp => rd_abides (h3.2 i v p hv hp) hg hr'⟩, (fun u hu k hk => by have := h4 u hu k hk; exact ⟨this.1, by omega, this.2.2⟩), h5.grown hg (by have := h1.lt; omega) (fun j e => Nat.le_trans hB (hr j e).1), by omega⟩
theorem sp_push {g B : Nat} {w W w3 w4 : World} {v' v2 u : Value} {vs : List Value} {ps : List (List (Int × Nat))} {p : List (Int × Nat)} {K : Nat → Prop} (hgB : g < B) (hK : ∀ k, K k → g < k ∧ k < B)
    (h1 : Blk W g [v']) (h2 : W.ownsRow B 29 1 v' vs.length vs) (h3 : PartsAt W vs ps) (h4 : ∀ u ∈ vs, ∀ k, u.ownBlock = some k → B ≤ k ∧ k < W.heap.size ∧ v'.ownBlock ≠ some k) (h5 : Below g w W) (h6 : B ≤ W.heap.size)
    (hB : Below W.heap.size W w3) (hu : Rd w3 2 u p.length (samCells p)) (huf : ∀ k, u.ownBlock = some k → W.heap.size ≤ k ∧ k < w3.heap.size)
    (k1 : w4.ownsRow 0 29 1 v2 (vs.length + 1) (vs ++ [u])) (k2 : Mods (fun k => v'.ownBlock = some k) w3 w4) (k3 : Fresh w3.heap.size v' v2) :
    KeepsOthers W (w4.setCell ⟨g, 0, none⟩ v2) ∧ KeepAt K W (w4.setCell ⟨g, 0, none⟩ v2) ∧ SpIn g B w (ps ++ [p]) (w4.setCell ⟨g, 0, none⟩ v2) := by
  have hvo : ∀ k, v'.ownBlock = some k → B ≤ k ∧ k < W.heap.size := fun k hk => h2.lt k hk
  have hs := Mods.set (fun k => k = g) w4 ⟨g, 0, none⟩ v2 (fun _ => rfl)
  have hM : Mods (fun k => k = g ∨ v'.ownBlock = some k) W (w4.setCell ⟨g, 0, none⟩ v2) :=
    ((Mods.of_below hB (fun k => k = g ∨ v'.ownBlock = some k)).trans (k2.mono (fun _ _ e => Or.inr e)) (fun _ _ e => e)).trans hs (fun _ _ e => Or.inl e)
  have hs3 := hB.size
  have hs4 := k2.size
  have hs5 := hs.size
  have hv2 : ∀ k, v2.ownBlock = some k → B ≤ k := fun k hk => by
    rcases k3 k hk with e | e
    · exact (hvo k e).1
    · omega
  refine ⟨KeepsOthers.of_mods hM (fun k o e ho => ?_), fun k hk => hM.block k (by have := hK k hk; omega) (fun e => ?_), v2, vs ++ [u], ?_, ?_, ⟨?_, fun i y r hy hr => ?_⟩, fun y hy k hk => ?_, ?_, by omega⟩
  · rcases e with rfl | e
    · obtain ⟨t, ht⟩ := h1
      rw [ht] at ho; cases ho; rfl
    · exact owns_isCells h2 k o e ho
  · have := hK k hk
    rcases e with e | e
    · omega
    · have := hvo k e; omega
  · have b3 := h1.of_same (hB.block _ h1.lt)
    have b4 := k2.blk b3 (fun e => by have := hvo g e; omega)
    simpa using b4.set 0 v2
  · rw [List.length_append]
    exact owns_rebase (hs.owns k1 (fun k hk e => by have := hv2 k hk; omega)) hv2
  · rw [List.length_append, List.length_append, h3.1]; rfl
  · by_cases hi : i < vs.length
    · rw [List.getElem?_append_left hi] at hy
      rw [List.getElem?_append_left (by rw [← h3.1]; exact hi)] at hr
      have hym := List.mem_of_getElem? hy
      have r3 := (h3.2 i y r hy hr).below hB
      have r4 := r3.mods k2 (fun k hk e => (h4 y hym k hk).2.2 e)
      exact r4.mods hs (fun k hk e => by have := (h4 y hym k hk).1; omega)
    · rw [List.getElem?_append_right (by omega)] at hy
      rw [List.getElem?_append_right (by rw [← h3.1]; omega), ← h3.1] at hr
      have h0 : i - vs.length = 0 := by
        have := (List.getElem?_eq_some_iff.1 hy).1
        simp at this
        omega
      rw [h0] at hy hr
      simp at hy hr
      subst hy
      subst hr
      have r4 := hu.mods k2 (fun k hk e => by have := huf k hk; have := hvo k e; omega)
      exact r4.mods hs (fun k hk e => by have := huf k hk; omega)
  · rcases List.mem_append.1 hy with hy | hy
    · have h := h4 y hy k hk
      refine ⟨h.1, by omega, fun e => ?_⟩
      rcases k3 k e with e2 | e2
      · exact h.2.2 e2
      · omega
    · have hyu : y = u := by simpa using hy
      subst hyu
      have h := huf k hk
      refine ⟨by omega, by omega, fun e => ?_⟩
      rcases k3 k e with e2 | e2
      · have := hvo k e2; omega
      · omega
  · exact h5.trans (hM.below (by have := h1.lt; omega) (fun k hk e => by
      rcases e with e | e
      · omega
      · have := hvo k e; omega))

set_option maxHeartbeats 4000000 in
theorem chunk_split (lv : Value) (l : List (Int × Nat)) (w : World) (hl : Rd w 2 lv l.length (samCells l)) (hn : l.length ≤ 1000000) :
    Calls Tryz.prog 21 #[lv] w fun e w' => ∃ r vs ps, e = .returned r ∧ PartsC l ps ∧ Rd w' 1 r vs.length vs ∧ PartsAt w' vs ps ∧ Below w.heap.size w w' := by
  obtain ⟨q, c, hv⟩ := hl.shape
  subst hv
  obtain ⟨L, hL⟩ : ∃ L, l.length = L := ⟨_, rfl⟩
  have HLl := Lib.hid hL
  rw [hL] at hl hn
  have HL := Lib.hid hl; have HN := Lib.hid hn
  obtain ⟨_, _, e, _, hLc, hcm, _, _⟩ := hl
  simp only [Value.slice.injEq] at e
  obtain ⟨rfl, _, rfl⟩ := e
  rw [hL]
  have HLc : Hid (L ≤ c ∧ c ≤ maxLen) := ⟨hLc, hcm⟩
  clear hn hL hLc hcm
  refine (callsIn_wide (n := 9)).1 ?_
  refine callsIn_of_wp_marks Tryz.func21 rfl trivial ?_ rfl
  simp only [Tryz.ntmps21, List.size_toArray, List.length_cons, List.length_nil, Nat.reduceAdd, Nat.reduceSub, Array.replicate_succ, Array.replicate_zero, List.push_toArray, List.append_toArray, List.nil_append, List.cons_append]
  gi_wp2_with (refine ⟨trivial, ?_⟩; gi_at_call 43; refine (new_chunk q _ c _ _).mono ?_; rintro e w' ⟨rfl, rfl⟩)
  obtain ⟨W0, hW0⟩ : ∃ W0, ((w.alloc (.cells #[.slice none 0 0] 48)).alloc (.cells #[.slice q L c] 29)).alloc (.cells #[.int .i64 120] 3) = W0 := ⟨_, rfl⟩
  have hB1 : Below w.heap.size w (w.alloc (.cells #[.slice none 0 0] 48)) := (Below.refl _ w).alloc (Nat.le_refl _) _
  have hB2 : Below w.heap.size w ((w.alloc (.cells #[.slice none 0 0] 48)).alloc (.cells #[.slice q L c] 29)) := hB1.alloc (by simp) _
  have hB0 : Below w.heap.size w W0 := by rw [← hW0]; exact hB2.alloc (by simp; omega) _
  have hs0 : W0.heap.size = w.heap.size + 3 := by rw [← hW0]; simp
  have hX0 : Blk W0 w.heap.size [.slice none 0 0] := by rw [← hW0]; exact ((Blk.new w _ _).alloc _).alloc _
  have hx1 : W0.cell? ⟨w.heap.size + 1, 0, none⟩ = some (.slice q L c) := by
    have h := ((Blk.new (w.alloc (.cells #[.slice none 0 0] 48)) #[.slice q L c] 29).alloc (.cells #[.int .i64 120] 3)).cell 0
    rw [hW0] at h
    simpa using h
  have hx2 : W0.cell? ⟨w.heap.size + 1 + 1, 0, none⟩ = some (.int .i64 120) := by
    have h := (Blk.new ((w.alloc (.cells #[.slice none 0 0] 48)).alloc (.cells #[.slice q L c] 29)) #[.int .i64 120] 3).cell 0
    rw [hW0] at h
    simpa using h
  rw [hW0]
  clear hW0 hB1 hB2
  have HGV := Lib.hid (chunk_gives 8 (by omega) (w.heap.size + 1) (w.heap.size + 1 + 1) q L c W0 hx1 hx2 HN.out HLc.out.1 HLc.out.2)
  have HI0 : Hid (SpIn w.heap.size W0.heap.size w [] W0) := ⟨_, [], hX0, World.ownsRow_nil _ _ _ _, ⟨rfl, fun i v p h => by cases h⟩, (fun u hu => by cases hu), hB0, Nat.le_refl _⟩
  have HS0 := Lib.hid hs0
  have HL0 := Lib.hid (HL.out.below hB0)
  clear hX0 hB0 hs0 hx1 hx2
  obtain ⟨K, hK⟩ : ∃ K : Nat → Prop, (fun k => k = w.heap.size + 1 ∨ k = w.heap.size + 1 + 1) = K := ⟨_, rfl⟩
  have HKW : Hid (∀ k, K k → w.heap.size < k ∧ k < W0.heap.size) := by rw [← hK]; exact fun k hk => by have := HS0.out; omega
  rw [hK] at HGV
  clear hK
  refine wpIn_rangeFunc_ownG rfl (by omega) (gf := 73) (lb := #[.pointer (some ⟨w.heap.size + 1, 0, none⟩), .pointer (some ⟨w.heap.size + 1 + 1, 0, none⟩)]) rfl trivial (enters_of Tryz.func73 (by kernel_rfl) rfl)
    HGV.out (fun h k => keepAt_t h k) (fun W l o o' h1 h2 h3 h4 => keepAt_b (fun k hk => (HKW.out k hk).2) W l o o' h1 h2 h3 h4) (Below.refl _ _) (fun _ => rfl)
    (fun pre W => SpIn w.heap.size W0.heap.size w ((pnums pre).map (partL l)) W)
    (fun _ _ _ => False)
    (spIn_own (by have := HS0.out; omega) (fun pre : List (Pc L) => (pnums pre).map (partL l)))
    (fun _ _ _ _ _ hs _ _ => hs)
    HI0.out
    (fun x => { tmps := #[.slice q L c, undef, .slice none 0 0, .pointer (some ⟨w.heap.size, 0, none⟩), partV q L (pnum x), .slice q L c, .func (.func 73) #[] #[.pointer (some ⟨w.heap.size + 1, 0, none⟩), .pointer (some ⟨w.heap.size + 1 + 1, 0, none⟩)], partV q L (pnum x), undef, undef, undef, undef, undef, undef], defers := [] })
    ?assign ?body ?done ?stop
  case assign =>
    intro l x W K hK
    simp only [List.zip_toArray, List.zip_cons_cons, List.zip_nil_right, List.foldl_toArray, List.foldl_cons, List.foldl_nil, List.setIfInBounds_toArray, List.set_cons_zero, List.set_cons_succ]
    gi_wp2
    exact hK
  case body =>
    rintro r pre x W ⟨v', vs, h1, h2, h3, h4, h5, h6⟩ hlen
    have HPs : Hid ((pnums (pre ++ [x])).map (partL l) = (pnums pre).map (partL l) ++ [partL l (pnum x)]) := by
      show _ = _
      simp [pnums]
    have hvl : vs.length ≤ 10000 := by
      have e := h3.1
      rw [List.length_map, pnums, List.length_map] at e
      have := HN.out
      unfold cntC at hlen
      omega
    have HPt : Hid (Rd W 2 (partV q L (pnum x)) (partL l (pnum x)).length (samCells (partL l (pnum x)))) := (part_rd HL.out HLl.out (pnum x) x.2).below h5
    obtain ⟨P, E, hpe⟩ : ∃ P E, partV q L (pnum x) = .slice P E E := ⟨_, _, rfl⟩
    rw [hpe] at HPt
    rw [hpe]
    have HCl := Lib.hid (clone_sam (.slice P E E) (partL l (pnum x)) W.drew HPt.out (by have := partL_len l (pnum x); omega))
    generalize (pnums pre).map (partL l) = ps at *
    obtain ⟨p1, c1, hv1⟩ := (Rd.of_owns h2).shape
    subst hv1
    have HBd : Hid ((vs.length + 1) * 24 ≤ 140737488355328 ∧ vs.length + 1 ≤ maxLen) := by show _ ∧ _; unfold maxLen; omega
    have HgB : Hid (w.heap.size < W0.heap.size) := by have := HS0.out; show _ < _; omega
    have c0 : W.drew.cell? ⟨w.heap.size, 0, none⟩ = some (.slice p1 vs.length c1) := by
      have := h1.drew.cell 0
      simpa using this
    have H1 := Lib.hid h1; have H2 := Lib.hid h2; have H3 := Lib.hid h3; have H4 := Lib.hid h4; have H5 := Lib.hid h5; have H6 := Lib.hid h6
    clear h1 h2 h3 h4 h5 h6 hlen hpe hvl
    refine wpIn_block ?_
    refine wpIn_region_plan (.take 1 (.two 0 2 (.one 2 (.one 3 (.one 4 (.one 5 .done)))) (.two 0 3 (.one 3 (.one 4 (.one 5 .done))) (.one 0 (.one 4 (.one 5 .done)))))) (by kernel_rfl) (by kernel_rfl) (by kernel_rfl) not_letsOut_body (by simp) (fun _ _ _ _ _ h => h) ?_
    refine plan_take rfl rfl _ (fun _ => rfl) ?_
    simp only [Act.put, List.setIfInBounds_toArray, List.set_cons_succ, List.set_cons_zero]
    refine plan_two ?_ ?_
    · refine plan_one rfl rfl (fun K' hK => ?_)
      go_wp2_with fail
      try (refine hK _ _ ?_; clear hK K')
      refine plan_one rfl rfl (fun K' hK => ?_)
      go_wp2_with fail
      refine HCl.out.mono ?_
      rintro e w2 ⟨u, rfl, hM⟩
      have hB2 : Below W.heap.size W w2 := ⟨hM.2.os, hM.2.tape, hM.2.output, hM.2.size, hM.2.block⟩
      have HB2 := Lib.hid hB2
      have HU2 := Lib.hid (Rd.of_owns hM.1)
      have HUf : Hid (∀ k, u.ownBlock = some k → W.heap.size ≤ k ∧ k < w2.heap.size) := fun k hk => hM.1.lt k hk
      have HW2 : Hid (w2.cell? ⟨w.heap.size, 0, none⟩ = some (.slice p1 vs.length c1)) := by show _ = _; rw [(H1.out.of_same (hB2.block _ H1.out.lt)).cell]; rfl
      have c0 := HW2.out
      obtain ⟨pu, cu, hue⟩ := (Rd.of_owns hM.1).shape
      subst hue
      clear hM hB2
      refine hK _ _ ?_
      clear hK K'
      refine plan_one rfl rfl (fun K' hK => ?_)
      go_wp2_with fail
      try (refine hK _ _ ?_; clear hK K')
      have hB3 : Below W.heap.size W (w2.alloc (.cells #[.slice pu (partL l (pnum x)).length cu] 29)) := HB2.out.alloc HB2.out.size _
      have hb3 : Blk (w2.alloc (.cells #[.slice pu (partL l (pnum x)).length cu] 29)) w2.heap.size [.slice pu (partL l (pnum x)).length cu] := Blk.new w2 _ _
      have HB3 := Lib.hid hB3
      have HO3 : Hid (Rd (w2.alloc (.cells #[.slice pu (partL l (pnum x)).length cu] 29)) 1 (.slice (some ⟨w2.heap.size, 0, none⟩) 1 1) 1 [.slice pu (partL l (pnum x)).length cu]) := rd_one hb3
      have HU3 := Lib.hid (HU2.out.below ((Below.refl _ w2).alloc (Nat.le_refl _) (.cells #[.slice pu (partL l (pnum x)).length cu] 29)))
      have HUf3 : Hid (∀ k, (Value.slice pu (partL l (pnum x)).length cu).ownBlock = some k → W.heap.size ≤ k ∧ k < (w2.alloc (.cells #[.slice pu (partL l (pnum x)).length cu] 29)).heap.size) := fun k hk => by have := HUf.out k hk; simp; omega
      clear c0
      have c0 : (w2.alloc (.cells #[.slice pu (partL l (pnum x)).length cu] 29)).cell? ⟨w.heap.size, 0, none⟩ = some (.slice p1 vs.length c1) := by rw [(H1.out.of_same (hB3.block _ H1.out.lt)).cell]; rfl
      clear hB3 hb3 HB2 HU2 HUf HW2
      generalize w2.heap.size = z at *
      generalize w2.alloc (.cells #[.slice pu (partL l (pnum x)).length cu] 29) = w3 at *
      clear c0
      have HOw : Hid (w3.ownsRow 0 29 1 (.slice p1 vs.length c1) vs.length vs) := owns_rebase ((Mods.of_below HB3.out (fun _ => False)).owns H2.out (fun _ _ e => e)) (fun _ _ => Nat.zero_le _)
      refine plan_extend elemRow rfl rfl (.tmp 8) (.tmp 11) rfl rfl rfl HOw.out HO3.out (by simp [Value.oneCell']) HBd.out (fun v2 w4 k1 k2 k3 => ?_)
      obtain ⟨p2, c2, hv2⟩ := (Rd.of_owns k1).shape
      subst hv2
      simp only [Act.put, List.setIfInBounds_toArray, List.set_cons_succ, List.set_cons_zero]
      have HF := Lib.hid (sp_push (w := w) (K := K) HgB.out HKW.out H1.out H2.out H3.out H4.out H5.out H6.out HB3.out HU3.out HUf3.out k1 k2 k3)
      have b4 := k2.blk (H1.out.of_same (HB3.out.block _ H1.out.lt)) (fun e => by have := H2.out.lt _ e; have := HgB.out; omega)
      have c4 := b4.cell 0
      simp only [List.getElem?_cons_zero] at c4
      have f4 := b4.free 0
      clear b4 k1 k2 k3
      refine plan_one rfl rfl (fun K' hK => ?_)
      go_wp2_with fail
      try (refine hK _ _ ?_; clear hK K')
      refine plan_done ?_
      refine ⟨HF.out.1.from _, HF.out.2.1, ?_⟩
      show SpIn _ _ _ _ _
      rw [HPs.out]
      exact HF.out.2.2
    · refine plan_one rfl rfl (fun K' hK => ?_)
      go_wp2_with fail
      refine HCl.out.mono ?_
      rintro e w2 ⟨u, rfl, hM⟩
      have hB2 : Below W.heap.size W w2 := ⟨hM.2.os, hM.2.tape, hM.2.output, hM.2.size, hM.2.block⟩
      have HB2 := Lib.hid hB2
      have HU2 := Lib.hid (Rd.of_owns hM.1)
      have HUf : Hid (∀ k, u.ownBlock = some k → W.heap.size ≤ k ∧ k < w2.heap.size) := fun k hk => hM.1.lt k hk
      have HW2 : Hid (w2.cell? ⟨w.heap.size, 0, none⟩ = some (.slice p1 vs.length c1)) := by show _ = _; rw [(H1.out.of_same (hB2.block _ H1.out.lt)).cell]; rfl
      have c0 := HW2.out
      obtain ⟨pu, cu, hue⟩ := (Rd.of_owns hM.1).shape
      subst hue
      clear hM hB2
      refine hK _ _ ?_
      clear hK K'
      refine plan_two ?_ ?_
      · refine plan_one rfl rfl (fun K' hK => ?_)
        go_wp2_with fail
        try (refine hK _ _ ?_; clear hK K')
        refine plan_one rfl rfl (fun K' hK => ?_)
        go_wp2_with fail
        try (refine hK _ _ ?_; clear hK K')
        have hB3 : Below W.heap.size W (w2.alloc (.cells #[.slice pu (partL l (pnum x)).length cu] 29)) := HB2.out.alloc HB2.out.size _
        have hb3 : Blk (w2.alloc (.cells #[.slice pu (partL l (pnum x)).length cu] 29)) w2.heap.size [.slice pu (partL l (pnum x)).length cu] := Blk.new w2 _ _
        have HB3 := Lib.hid hB3
        have HO3 : Hid (Rd (w2.alloc (.cells #[.slice pu (partL l (pnum x)).length cu] 29)) 1 (.slice (some ⟨w2.heap.size, 0, none⟩) 1 1) 1 [.slice pu (partL l (pnum x)).length cu]) := rd_one hb3
        have HU3 := Lib.hid (HU2.out.below ((Below.refl _ w2).alloc (Nat.le_refl _) (.cells #[.slice pu (partL l (pnum x)).length cu] 29)))
        have HUf3 : Hid (∀ k, (Value.slice pu (partL l (pnum x)).length cu).ownBlock = some k → W.heap.size ≤ k ∧ k < (w2.alloc (.cells #[.slice pu (partL l (pnum x)).length cu] 29)).heap.size) := fun k hk => by have := HUf.out k hk; simp; omega
        clear c0
        have c0 : (w2.alloc (.cells #[.slice pu (partL l (pnum x)).length cu] 29)).cell? ⟨w.heap.size, 0, none⟩ = some (.slice p1 vs.length c1) := by rw [(H1.out.of_same (hB3.block _ H1.out.lt)).cell]; rfl
        clear hB3 hb3 HB2 HU2 HUf HW2
        generalize w2.heap.size = z at *
        generalize w2.alloc (.cells #[.slice pu (partL l (pnum x)).length cu] 29) = w3 at *
        clear c0
        have HOw : Hid (w3.ownsRow 0 29 1 (.slice p1 vs.length c1) vs.length vs) := owns_rebase ((Mods.of_below HB3.out (fun _ => False)).owns H2.out (fun _ _ e => e)) (fun _ _ => Nat.zero_le _)
        refine plan_extend elemRow rfl rfl (.tmp 8) (.tmp 11) rfl rfl rfl HOw.out HO3.out (by simp [Value.oneCell']) HBd.out (fun v2 w4 k1 k2 k3 => ?_)
        obtain ⟨p2, c2, hv2⟩ := (Rd.of_owns k1).shape
        subst hv2
        simp only [Act.put, List.setIfInBounds_toArray, List.set_cons_succ, List.set_cons_zero]
        have HF := Lib.hid (sp_push (w := w) (K := K) HgB.out HKW.out H1.out H2.out H3.out H4.out H5.out H6.out HB3.out HU3.out HUf3.out k1 k2 k3)
        have b4 := k2.blk (H1.out.of_same (HB3.out.block _ H1.out.lt)) (fun e => by have := H2.out.lt _ e; have := HgB.out; omega)
        have c4 := b4.cell 0
        simp only [List.getElem?_cons_zero] at c4
        have f4 := b4.free 0
        clear b4 k1 k2 k3
        refine plan_one rfl rfl (fun K' hK => ?_)
        go_wp2_with fail
        try (refine hK _ _ ?_; clear hK K')
        refine plan_done ?_
        refine ⟨HF.out.1.from _, HF.out.2.1, ?_⟩
        show SpIn _ _ _ _ _
        rw [HPs.out]
        exact HF.out.2.2
      · refine plan_one rfl rfl (fun K' hK => ?_)
        go_wp2_with fail
        try (refine hK _ _ ?_; clear hK K')
        have hB3 : Below W.heap.size W (w2.alloc (.cells #[.slice pu (partL l (pnum x)).length cu] 29)) := HB2.out.alloc HB2.out.size _
        have hb3 : Blk (w2.alloc (.cells #[.slice pu (partL l (pnum x)).length cu] 29)) w2.heap.size [.slice pu (partL l (pnum x)).length cu] := Blk.new w2 _ _
        have HB3 := Lib.hid hB3
        have HO3 : Hid (Rd (w2.alloc (.cells #[.slice pu (partL l (pnum x)).length cu] 29)) 1 (.slice (some ⟨w2.heap.size, 0, none⟩) 1 1) 1 [.slice pu (partL l (pnum x)).length cu]) := rd_one hb3
        have HU3 := Lib.hid (HU2.out.below ((Below.refl _ w2).alloc (Nat.le_refl _) (.cells #[.slice pu (partL l (pnum x)).length cu] 29)))
        have HUf3 : Hid (∀ k, (Value.slice pu (partL l (pnum x)).length cu).ownBlock = some k → W.heap.size ≤ k ∧ k < (w2.alloc (.cells #[.slice pu (partL l (pnum x)).length cu] 29)).heap.size) := fun k hk => by have := HUf.out k hk; simp; omega
        clear c0
        have c0 : (w2.alloc (.cells #[.slice pu (partL l (pnum x)).length cu] 29)).cell? ⟨w.heap.size, 0, none⟩ = some (.slice p1 vs.length c1) := by rw [(H1.out.of_same (hB3.block _ H1.out.lt)).cell]; rfl
        clear hB3 hb3 HB2 HU2 HUf HW2
        generalize w2.heap.size = z at *
        generalize w2.alloc (.cells #[.slice pu (partL l (pnum x)).length cu] 29) = w3 at *
        refine plan_one rfl rfl (fun K' hK => ?_)
        go_wp2_with fail
        try (refine hK _ _ ?_; clear hK K')
        clear c0
        have HOw : Hid (w3.ownsRow 0 29 1 (.slice p1 vs.length c1) vs.length vs) := owns_rebase ((Mods.of_below HB3.out (fun _ => False)).owns H2.out (fun _ _ e => e)) (fun _ _ => Nat.zero_le _)
        refine plan_extend elemRow rfl rfl (.tmp 8) (.tmp 11) rfl rfl rfl HOw.out HO3.out (by simp [Value.oneCell']) HBd.out (fun v2 w4 k1 k2 k3 => ?_)
        obtain ⟨p2, c2, hv2⟩ := (Rd.of_owns k1).shape
        subst hv2
        simp only [Act.put, List.setIfInBounds_toArray, List.set_cons_succ, List.set_cons_zero]
        have HF := Lib.hid (sp_push (w := w) (K := K) HgB.out HKW.out H1.out H2.out H3.out H4.out H5.out H6.out HB3.out HU3.out HUf3.out k1 k2 k3)
        have b4 := k2.blk (H1.out.of_same (HB3.out.block _ H1.out.lt)) (fun e => by have := H2.out.lt _ e; have := HgB.out; omega)
        have c4 := b4.cell 0
        simp only [List.getElem?_cons_zero] at c4
        have f4 := b4.free 0
        clear b4 k1 k2 k3
        refine plan_one rfl rfl (fun K' hK => ?_)
        go_wp2_with fail
        try (refine hK _ _ ?_; clear hK K')
        refine plan_done ?_
        refine ⟨HF.out.1.from _, HF.out.2.1, ?_⟩
        show SpIn _ _ _ _ _
        rw [HPs.out]
        exact HF.out.2.2
  case done =>
    rintro D zs W hD hzs ⟨v', vs, h1, h2, h3, h4, h6, h5⟩ hK
    have c0 : W.cell? ⟨w.heap.size, 0, none⟩ = some v' := by rw [h1.cell]; rfl
    obtain ⟨p1, c1, hv1⟩ := (Rd.of_owns h2).shape
    subst hv1
    have HZs := Lib.hid hzs
    have H2 := Lib.hid h2; have H3 := Lib.hid h3; have H6 := Lib.hid h6
    clear h1 h2 h3 h4 h5 h6 hzs HGV
    gi_wp2
    refine ⟨by simp, .inl ⟨_, _, rfl, run_takeDeferred hK, ?_⟩⟩
    refine ⟨_, results_tmp rfl _ _ _, _, vs, (pnums zs).map (partL l), rfl, ?_, ?_, ?_, H6.out.trans (belowK_b (w := w) (Nat.le_refl _) W D _ _ (by have := HS0.out; omega) hK rfl rfl)⟩
    · have := parts_c l
      rw [HLl.out] at this
      rw [HZs.out]
      exact this
    · exact Rd.of_owns (ownsRow_putObj H2.out (.deferred none) hK rfl)
    · refine ⟨H3.out.1, fun i v p hv hp => rd_abides (row := some D) (H3.out.2 i v p hv hp) (grownBy_putObj' _ _ _) (fun r e => by cases e; exact ⟨_, hK, rfl⟩)⟩
  case stop =>
    rintro D c pre W _ _ h _
    exact h.elim
end Go.Proofs.YtgpmoimmpbkgfaaGreatDoor

end

section
/- Layer 9: the program's Sizes, Choose, Encode, Decode and Split meet what the walks ask. -/
set_option linter.unusedVariables false
namespace Go.Proofs.YtgpmoimmpbkgfaaGreatDoor
open Go Go.RowKit

theorem chunk : CIf G9 T9 where
  keeps := fun h hm hk => h.keeps hm hk
  low := fun h => h.low
  sizes := fun lv l w hT hl ok hn => chunk_sizes lv l w hT hl ok hn
  choose := fun lv l w hT hl ok hn => chunk_choose lv l w hT hl ok hn
  encode := fun lv l w hT hl ok hn => chunk_encode lv l w hT hl ok hn
  decode := fun bv b w hT hb h8 hn => chunk_decode bv b w hT hb h8 hn
  split := fun lv l w hT hl hn => chunk_split lv l w hl hn
end Go.Proofs.YtgpmoimmpbkgfaaGreatDoor

end

section
/- Layer 9: both tables, as the statements list them, give the walks what they ask. -/
set_option maxRecDepth 100000
namespace Go.Proofs.YtgpmoimmpbkgfaaGreatDoor
open Go Go.RowKit

/-- What the statements list. -/
def listed : List (String × DataW Unit) := [("math/bits.deBruijn64tab", Rows.laid_math_bits_deBruijn64tab), ("tsblock/times.forms", Rows.laid_tsblock_times_forms)]

theorem gZeros : Tryz.prog.globalNamed "math/bits.deBruijn64tab" = some 1 := by kernel_rfl
theorem tZeros : (Tryz.prog.globals[1]?).map (·.type) = some 192 := by kernel_rfl

theorem gForms : Tryz.prog.globalNamed "tsblock/times.forms" = some 0 := by kernel_rfl
theorem tForms : (Tryz.prog.globals[0]?).map (·.type) = some 160 := by kernel_rfl

def formData (k : Nat) : DataW Unit := .agg [.lit (.int .u64 (markT k : Int)), .lit (.int .i64 (markLenT k : Int)), .lit (.int .i64 (widthT k : Int))]
theorem listed_forms : Rows.laid_tsblock_times_forms = (.agg ((List.range 5).map formData) : DataW Unit) := rfl

theorem one_cell_of {cs : List Value} {i : Nat} {u : Value} (h : (cs.drop i).take 1 = [u]) : cs[i]? = some u := by
  have := congrArg (·[0]?) h
  simpa [List.getElem?_take, List.getElem?_drop] using this

theorem form_of_trod {W : World} {fuel : Nat} {cs : List Value} {p : List MemPlace} {k : Nat} (h : DataW.trod (fun _ => ()) Tryz.prog W 0 (fun _ => true) false fuel 104 cs = some (formData k, p)) :
    cs[0]? = some (.int .u64 (markT k : Int)) ∧ cs[1]? = some (.int .i64 (markLenT k : Int)) ∧ cs[2]? = some (.int .i64 (widthT k : Int)) := by
  obtain ⟨y0, y1, y2, n, hx, _, h0, h1, h2⟩ := Deep.trod_struct3 Tryz.underlying104 h
  obtain ⟨n0, c0, rfl, _⟩ := DataW.trod_int Tryz.underlying31 h0
  obtain ⟨n1, c1, rfl, _⟩ := DataW.trod_int Tryz.underlying3 h1
  obtain ⟨n2, c2, rfl, _⟩ := DataW.trod_int Tryz.underlying3 h2
  have hd := congrArg Prod.fst hx
  simp only [formData, DataW.agg.injEq, List.cons.injEq, DataW.lit.injEq, Lit.int.injEq, true_and, and_true] at hd
  obtain ⟨e0, e1, e2⟩ := hd
  rw [e0, e1, e2]
  exact ⟨one_cell_of c0, one_cell_of c1, one_cell_of c2⟩

theorem forms_of_vars {W : World} {q0 : List MemPlace} {r : List (String × DataW Unit)} (h : DataW.LaidVars Tryz.prog W (("tsblock/times.forms", Rows.laid_tsblock_times_forms) :: r) q0) : TabF W := by
  obtain ⟨g', t', cs, fuel, p, q, hg', ht', hvar, hd, _, _⟩ := h
  obtain rfl := Option.some.inj (gForms.symm.trans hg')
  obtain rfl := Option.some.inj (tForms.symm.trans ht')
  rw [listed_forms] at hd
  obtain ⟨xs, m, _, hx, _, hxl, hi⟩ := DataW.trod_array Tryz.underlying160 hd
  have hce : Tryz.prog.cellsOf 104 = 3 := by kernel_rfl
  rw [hce] at hi
  have hm : (List.range 5).map formData = xs.map (·.1) := by
    have := congrArg Prod.fst hx
    simpa using this
  intro k hk
  have hk5 : k < 5 := by omega
  have hxk : (xs.map (·.1))[k]? = some (formData k) := by rw [← hm]; simp [hk5]
  rw [List.getElem?_map] at hxk
  obtain ⟨y, hy, hy1⟩ := Option.map_eq_some_iff.1 hxk
  have ht := hi k hk5
  rw [hy] at ht
  obtain ⟨y1, y2⟩ := y
  simp only at hy1
  subst hy1
  obtain ⟨a0, a1, a2⟩ := form_of_trod ht
  have hc : ∀ j, j < 3 → W.cell? ⟨0, k * 3 + j, none⟩ = ((cs.toList.drop (k * 3)).take 3)[j]? := fun j hj => by
    rw [World.var?_cell gForms hvar, List.getElem?_take, if_pos hj, List.getElem?_drop, Array.getElem?_toList]
  exact ⟨(hc 0 (by omega)).trans a0, (hc 1 (by omega)).trans a1, (hc 2 (by omega)).trans a2⟩

theorem tab_of_laid {W : World} (h : laidMetH Tryz.prog listed W) : T9 W := by
  rw [MakeChecks.laidMetH_plain _ _ _ (by kernel_rfl)] at h
  constructor
  · obtain ⟨ps, ⟨g', t', cs, fuel, p, q, hg', ht', hvar, hd, hr, _⟩, _⟩ := h
    exact forms_of_vars hr
  · have hT : Lib.TabIs Tryz.prog W "math/bits.deBruijn64tab" .u8 (Lib.deBruijn64tab.map fun n : Nat => (n : Int)) :=
      Lib.tabIs_of_head gZeros tZeros Tryz.underlying192 Tryz.underlying5 (by kernel_rfl) (by kernel_rfl) (rest := [("tsblock/times.forms", Rows.laid_tsblock_times_forms)]) h
    intro i hi
    have := hT.cell gZeros i (by simpa using hi)
    rw [this]
    have e : (Lib.deBruijn64tab.map fun n : Nat => (n : Int)).getD i 0 = ((Lib.deBruijn64tab.getD i 0 : Nat) : Int) := by
      simp only [List.getD_eq_getElem?_getD, List.getElem?_map]
      cases Lib.deBruijn64tab[i]? <;> rfl
    rw [e]

theorem start_met (os : Os) (args : Array Value) : laidMetH Tryz.prog listed ((World.laidAll Tryz.prog os listed).forCall (fun _ _ => 0) ⟨#[], args, []⟩).memory := by
  rw [MakeChecks.laidMetH_plain _ _ _ (by kernel_rfl)]
  exact laidMet_laidAll args (by kernel_rfl) (by kernel_rfl)
theorem start_shaped (os : Os) (args : Array Value) : ((World.laidAll Tryz.prog os listed).forCall (fun _ _ => 0) ⟨#[], args, []⟩).Shaped Tryz.prog := World.shaped_of_ZipB (by kernel_rfl) (by kernel_rfl)
end Go.Proofs.YtgpmoimmpbkgfaaGreatDoor

end

section
/- Layer 6: the reference's zeros, inside and outside. -/
set_option linter.unusedVariables false
namespace Go.Proofs.YtgpmoimmpbkgfaaGreatDoor
open Go Go.RowKit

theorem lead_bit {x : Nat} (hx : x < 18446744073709551616) (h0 : x ≠ 0) : x.testBit (63 - leadV x) = true := by
  have h1 : Nat.log2 x < 64 := (Nat.log2_lt h0).2 (by simpa using hx)
  have h2 := @Nat.lt_log2_self x
  have h3 := Nat.log2_self_le h0
  rw [leadV, show 63 - (63 - Nat.log2 x) = Nat.log2 x by omega, Nat.testBit_eq_decide_div_mod_eq, decide_eq_true_iff]
  have h4 : x / 2 ^ Nat.log2 x = 1 := by
    rw [Nat.pow_succ] at h2
    generalize 2 ^ Nat.log2 x = P at *
    have hP : 0 < P := by omega
    exact Nat.div_eq_of_lt_le (by omega) (by omega)
  rw [h4]
theorem lead_no {x i : Nat} (hx : x < 18446744073709551616) (h0 : x ≠ 0) (hi : i < leadV x) : x.testBit (63 - i) = false := by
  apply Nat.testBit_lt_two_pow
  exact Nat.lt_of_lt_of_le (lead_lt hx h0) (Nat.pow_le_pow_right (by decide) (by omega))
theorem trail_no {x i : Nat} (hi : i < trailV x) : x.testBit i = false := by
  obtain ⟨c, hc⟩ := tz_dvd 64 x
  rw [Nat.testBit_eq_decide_div_mod_eq, decide_eq_false_iff_not]
  have e : x = 2 ^ i * (2 * (2 ^ (tz 64 x - i - 1) * c)) := by
    rw [← Nat.mul_assoc 2, ← Nat.pow_succ', show (tz 64 x - i - 1).succ = tz 64 x - i by have : i < tz 64 x := hi; omega, ← Nat.mul_assoc, ← Nat.pow_add, show i + (tz 64 x - i) = tz 64 x by have : i < tz 64 x := hi; omega]
    exact hc
  rw [e, Nat.mul_div_cancel_left _ (Nat.two_pow_pos i)]
  omega
theorem trail_bit {x : Nat} (hx : x < 18446744073709551616) (h0 : x ≠ 0) : x.testBit (trailV x) = true := by
  obtain ⟨c, hc⟩ := tz_dvd 64 x
  have hw := window hx h0
  rw [Nat.testBit_eq_decide_div_mod_eq, decide_eq_true_iff]
  have hd : x / 2 ^ trailV x = c := by
    show x / 2 ^ tz 64 x = c
    exact Nat.div_eq_of_eq_mul_right (Nat.two_pow_pos _) hc
  rw [hd]
  by_cases ho : c % 2 = 1
  · exact ho
  · have h2 : 2 ^ (trailV x + 1) ∣ x := by
      refine ⟨c / 2, ?_⟩
      show x = 2 ^ (tz 64 x + 1) * (c / 2)
      rw [Nat.pow_succ, Nat.mul_assoc, show 2 * (c / 2) = c by omega]
      exact hc
    have h3 := le_tz 64 (trailV x + 1) x (by omega) h2
    have h4 : trailV x + 1 ≤ trailV x := h3
    omega

theorem ref_inside (x t : Nat) (hx : x < 18446744073709551616) (ht : t ≤ 64) (w : World) : Calls Tryz.prog 75 #[.int .u64 (x : Int), .int .i64 (t : Int)] w fun e w' => e = .returned (.int .u64 ((x / 2 ^ t : Nat) : Int)) ∧ w' = w := by
  have HT := Lib.hid ht
  have HX := Lib.hid hx
  clear ht hx
  go_enter Tryz.func75, Tryz.ntmps75
  go_wp2
  go_loop [0, 5] (fun v c => ∃ k : Nat, k ≤ t ∧ c = .int .i64 (k : Int) ∧ v = .int .u64 ((x / 2 ^ k : Nat) : Int)) (fun _ c => t - (intOf c).toNat)
  case atStart => exact ⟨0, Nat.zero_le _, rfl, by simp⟩
  case round =>
    obtain ⟨k, hk, rfl, rfl⟩ := hrel
    by_cases hlt : k < t
    · have hk64 : (k : Int) < 64 := by have := HT.out; omega
      have HV : Hid (x / 2 ^ (k + 1) = x / 2 ^ k / 2) := by show _ = _; rw [Nat.pow_succ, Nat.div_div_eq_div_mul]
      have hb : x / 2 ^ k ≤ x := Nat.div_le_self _ _
      have hb2 : ((x / 2 ^ k : Nat) : Int) ≤ 18446744073709551615 := by have := HX.out; omega
      clear hb
      generalize x / 2 ^ k = V at *
      go_wp2
      go_round
      case rel => exact ⟨k + 1, by omega, by go_num, by rw [HV.out]; go_num⟩
      case measure => simp [intOf]; omega
    · obtain rfl : k = t := by omega
      go_wp2
      go_ret
      exact ⟨rfl, rfl⟩
set_option maxHeartbeats 1000000 in
theorem ref_zeros (x : Nat) (hx : x < 18446744073709551616) (h0 : x ≠ 0) (w : World) : Calls Tryz.prog 74 #[.int .u64 (x : Int)] w fun e w' => e = .returned (.tuple #[.int .i64 (leadV x : Int), .int .i64 (trailV x : Int)]) ∧ Below w.heap.size w w' := by
  have HW := Lib.hid (ref_write (.slice none 0 0) [] x 64 w (World.ownsRow_nil _ _ _ _) hx (by decide) (by simp))
  have HWin := Lib.hid (window hx h0)
  have HBit : Hid (∀ i (h : i < 64), (fieldBits x 64)[i]? = some (x.testBit (63 - i))) := fun i h => fieldBits_get x 64 i h
  have HL := Lib.hid (lead_bit hx h0)
  have HLn : Hid (∀ i, i < leadV x → x.testBit (63 - i) = false) := fun i h => lead_no hx h0 h
  have HTb := Lib.hid (trail_bit hx h0)
  have HTn : Hid (∀ i, i < trailV x → x.testBit i = false) := fun i h => trail_no h
  have HFl : Hid ((fieldBits x 64).length = 64) := fieldBits_length x 64
  rw [List.nil_append] at HW
  clear hx h0
  generalize fieldBits x 64 = L at *
  generalize leadV x = ld at *
  generalize trailV x = tr at *
  go_enter Tryz.func74, Tryz.ntmps74
  go_wp2_with fail
  refine HW.out.mono ?_
  rintro e w1 ⟨v1, rfl, hR⟩
  have HB1 : Hid (Below w.heap.size w w1) := hR.mods.below (Nat.le_refl _) (fun k _ e => by cases e)
  have HR1 : Hid (Rd w1 1 v1 64 (bls L)) := by
    show Rd _ _ _ _ _
    have h := Rd.of_owns hR.own
    rw [HFl.out] at h
    exact h
  have HNe : Hid (bls L ≠ []) := fun e => by have := congrArg List.length e; rw [bls_length, HFl.out] at this; simp at this
  obtain ⟨b, off, c, hv, hm1, hm2, hcell⟩ := HR1.out.at HNe.out
  subst hv
  have HC : Hid (∀ i, i < 64 → w1.cell? ⟨b, off + i, none⟩ = some (.bool (x.testBit (63 - i)))) := fun i h => hcell i _ (by rw [bls, List.getElem?_map, HBit.out i h]; rfl)
  clear hR hm1 hm2 hcell HW HBit
  go_wp2_with fail
  go_loop [5] (fun c => ∃ k : Nat, k ≤ ld ∧ c = .int .i64 (k : Int)) (fun c => ld - (intOf c).toNat)
  case atStart => exact ⟨0, Nat.zero_le _, rfl⟩
  case round =>
    obtain ⟨k, hk, rfl⟩ := hrel
    have hk64 : (k : Int) < 64 := by have := HWin.out; omega
    have hcell := HC.out k (by have := HWin.out; omega)
    by_cases hlt : k < ld
    · rw [HLn.out k hlt] at hcell
      go_wp2
      go_round
      case rel => exact ⟨k + 1, by omega, by go_num⟩
      case measure => simp [intOf]; omega
    · obtain rfl : k = ld := by omega
      rw [HL.out] at hcell
      go_wp2_with fail
      go_loop [6] (fun c => ∃ j : Nat, j ≤ tr ∧ c = .int .i64 (j : Int)) (fun c => tr - (intOf c).toNat)
      case atStart => exact ⟨0, Nat.zero_le _, rfl⟩
      case round =>
        obtain ⟨j, hj, rfl⟩ := hrel
        have hj64 : (j : Int) ≤ 63 := by have := HWin.out; omega
        have hsub : (63 : Int) - (j : Int) = ((63 - j : Nat) : Int) := by omega
        have hs64 : ((63 - j : Nat) : Int) < 64 := by omega
        have hcj := HC.out (63 - j) (by omega)
        rw [show 63 - (63 - j) = j by have := HWin.out; omega] at hcj
        have HJ : Hid (j ≤ 63) := by have := HWin.out; show _ ≤ _; omega
        by_cases hlt2 : j < tr
        · rw [HTn.out j hlt2] at hcj
          generalize 63 - j = m at *
          go_wp2
          go_round
          case rel => exact ⟨j + 1, by omega, by go_num⟩
          case measure => simp [intOf]; omega
        · obtain rfl : j = tr := by omega
          rw [HTb.out] at hcj
          generalize 63 - j = m at *
          go_wp2
          go_ret2
          exact ⟨rfl, HB1.out⟩
end Go.Proofs.YtgpmoimmpbkgfaaGreatDoor

end
