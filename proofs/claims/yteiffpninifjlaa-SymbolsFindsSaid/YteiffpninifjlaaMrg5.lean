/- Ref04Y, Ref10C, Take, From, TakeH, Ref04R, in one text. -/
import Derived.Test.YteiffpninifjlaaMrg3
import Derived.Test.YteiffpninifjlaaMrg1
import Derived.Test.YteiffpninifjlaaMrg4
import Derived.Test.YteiffpninifjlaaMrg2
import Derived.RegionTactic
import Derived.Laws.Slices
import Derived.ChangeKeysEq
import Derived.OrdersHeld

section
/- Layer 4: the reference's strings. -/
set_option linter.unusedVariables false
namespace Go.Proofs.Yteiffpninifjlaa
open Go Go.RowKit

set_option maxHeartbeats 1000000 in
theorem ref_bytes (s : ByteArray) (hs : s.size ≤ 140737488353000) (w : World) :
    Calls Try.prog 33 #[.string s] w fun e w' => ∃ r, e = .returned r ∧ Made w w' 5 1 r (bytesOf (numsOf s)).length (u8s (bytesOf (numsOf s))) := by
  have hten := groups_ten (x := s.size) (by omega)
  have HL : Hid (((groups s.size).length + s.size) * 1 ≤ 140737488355328 ∧ (groups s.size).length + s.size ≤ maxLen) := by show _ ∧ _; unfold maxLen; omega
  have HW : Hid (bytesOf (numsOf s) = groups s.size ++ numsOf s) := by show _ = _; rw [bytesOf, numsOf_length]
  have hw : IntKind.u64.wrap (s.size : Int) = (s.size : Int) := by rw [IntKind.wrap_u64]; omega
  go_enter Try.func33, Try.ntmps33
  go_wp2_with fail
  refine (ref_encode s.size (by omega) _).mono ?_
  rintro e w1 ⟨r, rfl, hM⟩
  obtain ⟨p, c, hr⟩ := (Rd.of_owns hM.1).shape
  subst hr
  have HO : Hid (w1.ownsRow 0 5 1 (.slice p (groups s.size).length c) (groups s.size).length (u8s (groups s.size))) := owns_rebase hM.1 (fun _ _ => Nat.zero_le _)
  have HF : Hid (∀ k, (Value.slice p (groups s.size).length c).ownBlock = some k → w.heap.size ≤ k) := fun k hk => (hM.1.lt k hk).1
  have HB := Lib.hid hM.2
  clear hM
  go_wp2_with (at_builtin; refine wpList_extendStr Try.elemU8 Try.underlying9 _ _ _ _ HO.out s HL.out rfl _ _ rfl rfl rfl ?_)
  intro v2 w2 hown hmods hfr
  have HM2 : Hid (Made w w2 5 1 v2 (bytesOf (numsOf s)).length (u8s (bytesOf (numsOf s)))) := by
    refine ⟨?_, HB.out.trans (hmods.below HB.out.size (fun k hk e => by have := HF.out k e; omega))⟩
    have h2 := owns_rebase hown (base' := w.heap.size) (fun k hk => by
      rcases hfr k hk with e | e
      · exact HF.out k e
      · have := HB.out.size; omega)
    rw [HW.out, List.length_append, numsOf_length, u8s_append]
    exact h2
  clear hown hmods hfr
  go_wp2_with fail
  go_ret
  exact ⟨_, rfl, HM2.out⟩
end Go.Proofs.Yteiffpninifjlaa

end

section
/- Layer 10: the reference's Encode. -/
set_option linter.unusedVariables false
namespace Go.Proofs.Yteiffpninifjlaa
open Go Go.RowKit

abbrev OwnB := Own1 5 (fun c : Nat => Value.int .u8 (c : Int))
def encPre (t : List ByteArray) (i : Nat) : List Nat := groups t.length ++ (t.take i).flatMap fun s => bytesOf (numsOf s)
theorem encPre_step {t : List ByteArray} {i : Nat} {x : ByteArray} (h : t[i]? = some x) : encPre t (i + 1) = encPre t i ++ bytesOf (numsOf x) := by
  rw [encPre, List.take_add_one, h]; simp [encPre]
theorem bytesOf_le (s : List Nat) (h : s.length ≤ 65535) : (bytesOf s).length ≤ 65600 := by
  rw [bytesOf_length]
  have := groups_ten (x := s.length) (by omega)
  omega
theorem encPre_len {t : List ByteArray} (hf : Fits t) (hn : t.length ≤ 1000000) (i : Nat) : (encPre t i).length ≤ 10 + 65600 * i := by
  rw [encPre, List.length_append]
  have h1 := groups_ten (x := t.length) (by omega)
  have h2 : ∀ (l : List ByteArray) (i : Nat), (∀ s ∈ l, s.size ≤ 65535) → ((l.take i).flatMap fun s => bytesOf (numsOf s)).length ≤ 65600 * i := by
    intro l
    induction l with
    | nil => intro i _; simp
    | cons s l ih =>
      intro i h
      cases i with
      | zero => simp
      | succ i =>
        rw [List.take_succ_cons, List.flatMap_cons, List.length_append]
        have := ih i (fun s hs => h s (by simp [hs]))
        have := bytesOf_le (numsOf s) (by rw [numsOf_length]; exact h s (by simp))
        omega
  have := h2 t i hf
  omega

/-- A result that is bytes and an error. -/
structure GotB (w : World) (o : Nat × List Nat) (e : Ending) (w' : World) : Prop where
  res : ∃ r, e = .returned (.tuple #[r, .int .i64 (o.1 : Int)]) ∧ Rd w' 1 r o.2.length (u8s o.2) ∧ (∀ k, r.ownBlock = some k → w.heap.size ≤ k)
  bel : Below w.heap.size w w'

set_option maxRecDepth 20000 in
set_option maxHeartbeats 4000000 in
theorem ref_encode10 (lv : Value) (t : List ByteArray) (w : World) (hl : Rd w 1 lv t.length (strs t)) (hn : t.length ≤ 1000000) :
    Calls Try.prog 19 #[lv] w (GotB w (encSyR t)) := by
  have HL := Lib.hid hl; have HNn := Lib.hid hn
  obtain ⟨pl, cl, hv⟩ := hl.shape
  subst hv
  clear hl hn
  go_enter Try.func19, Try.ntmps19
  go_wp2_with fail
  go_loopw [4] (fun iv wr => ∃ (i : Nat), i ≤ t.length ∧ iv = .int .i64 (i : Int) ∧ Hid (∀ s ∈ t.take i, s.size ≤ 65535) ∧ Hid (Below w.heap.size w wr)) (fun iv _ => t.length - (intOf iv).toNat)
  case atStart => exact ⟨0, Nat.zero_le _, rfl, (by intro s hs; simp at hs), Below.refl _ _⟩
  case round =>
    obtain ⟨i, hi, rfl, HF, HB⟩ := hrel
    have him : (i : Int) ≤ 1000000 := by have := HNn.out; omega
    by_cases hlt : i < t.length
    · have hlt' : (i : Int) < (t.length : Int) := by omega
      obtain ⟨b, off, c', e, _, _, _⟩ := HL.out.at (fun e => by have := congrArg List.length e; rw [strs_length] at this; simp at this; subst this; simp at hlt)
      simp only [Value.slice.injEq] at e
      obtain ⟨rfl, _, rfl⟩ := e
      obtain ⟨x, hx⟩ : ∃ x, t[i]? = some x := ⟨_, List.getElem?_eq_getElem hlt⟩
      have hcx : wr.cell? ⟨b, off + i, none⟩ = some (.string x) := by rw [← (List.getElem?_eq_some_iff.1 hx).2]; exact rd1_cell (HL.out.below HB.out) hlt
      have HX := Lib.hid hx
      clear hx
      by_cases hlong : 65535 < x.size
      · have hl' : (65535 : Int) < (x.size : Int) := by omega
        have HE : Hid (encSyR t = (7, [])) := by
          show _ = _
          rw [encSyR, if_pos (fun h => by have := h x (List.mem_of_getElem? HX.out); omega)]
        clear hlong
        go_wp2_with fail
        go_ret2
        rw [HE.out]
        exact ⟨⟨_, rfl, Rd.nil _ _, fun k e => by cases e⟩, HB.out⟩
      · have hl' : ¬ (65535 : Int) < (x.size : Int) := by omega
        have HF2 : Hid (∀ s ∈ t.take (i + 1), s.size ≤ 65535) := by
          intro s hs
          rw [List.take_add_one, HX.out] at hs
          rcases List.mem_append.1 hs with e | e
          · exact HF.out s e
          · simp at e; subst e; omega
        clear hlong
        go_wp2_with fail
        go_round
        case rel => exact ⟨i + 1, by omega, by go_num, HF2.out, HB.out⟩
        case measure => simp [intOf]; omega
    · have hlt' : ¬ (i : Int) < (t.length : Int) := by omega
      have HFi : Hid (Fits t) := by have := HF.out; rw [List.take_of_length_le (by omega)] at this; exact this
      have hw : IntKind.u64.wrap (t.length : Int) = (t.length : Int) := by rw [IntKind.wrap_u64]; have := HNn.out; omega
      have htm : (t.length : Int) ≤ 1000000 := by have := HNn.out; omega
      clear HF hlt hi him
      go_wp2_with fail
      refine (ref_encode t.length (by omega) _).mono ?_
      rintro e w1 ⟨r, rfl, hM⟩
      have HO1 : Hid (OwnB w w1 (encPre t 0) r) := by
        refine ⟨?_, HB.out.trans (hM.2.mono HB.out.size)⟩
        have h := owns_rebase hM.1 (base' := w.heap.size) (fun k hk => by have := (hM.1.lt k hk).1; have := HB.out.size; omega)
        rw [show encPre t 0 = groups t.length from by simp [encPre]]
        exact h
      obtain ⟨p1, c1, hr⟩ := HO1.out.shape
      subst hr
      clear hM HB hlt'
      generalize (i : Int) = i0 at *
      go_wp2_with fail
      go_loopw [5, 6] (fun vv iv wr => ∃ (i : Nat), i ≤ t.length ∧ iv = .int .i64 (i : Int) ∧ Hid (AscB ltS (t.take i)) ∧ Hid (OwnB w wr (encPre t i) vv)) (fun _ iv _ => t.length - (intOf iv).toNat)
      case atStart => exact ⟨0, Nat.zero_le _, rfl, (by show AscB _ _; rw [List.take_zero]; exact List.Pairwise.nil), HO1.out⟩
      case round =>
        obtain ⟨i, hi, rfl, HA, HO⟩ := hrel
        have him : (i : Int) ≤ 1000000 := by omega
        by_cases hlt : i < t.length
        · have hlt' : (i : Int) < (t.length : Int) := by omega
          obtain ⟨b, off, c', e, _, _, _⟩ := HL.out.at (fun e => by have := congrArg List.length e; rw [strs_length] at this; simp at this; subst this; simp at hlt)
          simp only [Value.slice.injEq] at e
          obtain ⟨rfl, _, rfl⟩ := e
          obtain ⟨x, hx⟩ : ∃ x, t[i]? = some x := ⟨_, List.getElem?_eq_getElem hlt⟩
          have HCx : Hid (∀ w', Below w.heap.size w w' → w'.cell? ⟨b, off + i, none⟩ = some (.string x)) := fun w' hb => by rw [← (List.getElem?_eq_some_iff.1 hx).2]; exact rd1_cell (HL.out.below hb) hlt
          have hcx := HCx.out wr HO.out.bel
          have HX := Lib.hid hx
          have hxs : x.size ≤ 65535 := HFi.out x (List.mem_of_getElem? hx)
          have HY := Lib.hid (ref_bytes x (by omega))
          have HNx := Lib.hid (encPre_step hx)
          have HLx : Hid ((encPre t i).length ≤ 10 + 65600 * i ∧ (bytesOf (numsOf x)).length ≤ 65600) := ⟨encPre_len HFi.out HNn.out i, bytesOf_le _ (by rw [numsOf_length]; exact hxs)⟩
          obtain ⟨pv, cv, hvv⟩ := HO.out.shape
          subst hvv
          clear hx hxs
          by_cases h0 : i = 0
          · subst h0
            have hcx : wr.cell? ⟨b, off, none⟩ = some (.string x) := by simpa using hcx
            have HA2 : Hid (AscB ltS (t.take (0 + 1))) := by
              show AscB _ _
              rw [List.take_add_one, HX.out]
              exact List.pairwise_singleton _ _
            go_wp2_with fail
            go_quiet (fail)
            have HO1 := Lib.hid (HO.out.drewN nq)
            have hcx1 : (wr.drewN nq).cell? ⟨b, off, none⟩ = some (.string x) := hcx
            clear hcx HO
            generalize wr.drewN nq = wn at *
            go_wp2_with fail
            refine (HY.out _).mono ?_
            rintro e w2 ⟨r, rfl, hM⟩
            have HO2 := Lib.hid (HO1.out.below hM.2)
            have HRr := Lib.hid (Rd.of_owns hM.1)
            obtain ⟨pr, cr, hr⟩ := HRr.out.shape
            subst hr
            have HO0 := Lib.hid HO2.out.base0
            have HBd : Hid (((encPre t 0).length + (bytesOf (numsOf x)).length) * 1 ≤ 140737488355328 ∧ (encPre t 0).length + (bytesOf (numsOf x)).length ≤ maxLen) := by
              show _ ∧ _
              have h1 := HLx.out; have h2 := HNn.out; have h3 := hi
              unfold maxLen
              omega
            clear hM HO1 hcx1
            generalize bytesOf (numsOf x) = bx at *
            go_wp2_with (at_builtin; refine wpList_extend Try.elemU8 w2 _ _ _ _ _ _ HO0.out HRr.out (u8s_oneCell _) HBd.out rfl _ _ rfl rfl rfl ?_)
            intro v3 w3 k1 k2 k3
            have HO3 : Hid (OwnB w w3 (encPre t (0 + 1)) v3) := by show OwnB _ _ _ _; rw [HNx.out]; exact HO2.out.extended k1 k2 k3
            clear k1 k2 k3 HO0 HRr HO2
            go_wp2_with fail
            go_round
            case rel => exact ⟨1, by omega, by go_num, HA2.out, HO3.out⟩
            case measure => simp [intOf]; omega
          · obtain ⟨q, hq⟩ : ∃ q, i = q + 1 := ⟨i - 1, by omega⟩
            have h0' : (0 : Int) < (i : Int) := by omega
            have hd0 : decide (0 < i) = true := by simp; omega
            have hqi : (i : Int) - 1 = (q : Int) := by omega
            have hq0 : (0 : Int) ≤ (q : Int) := by omega
            have hql : (q : Int) < (t.length : Int) := by omega
            obtain ⟨y, hy⟩ : ∃ y, t[q]? = some y := ⟨_, List.getElem?_eq_getElem (by omega)⟩
            have hcy : wr.cell? ⟨b, off + q, none⟩ = some (.string y) := by rw [← (List.getElem?_eq_some_iff.1 hy).2]; exact rd1_cell (HL.out.below HO.out.bel) (by omega)
            have HTk : Hid (t.take (i + 1) = t.take i ++ [x] ∧ (t.take i).getLast? = some y) := by
              refine ⟨by rw [List.take_add_one, HX.out]; rfl, ?_⟩
              rw [hq, List.take_add_one, hy]; simp
            clear h0 hy
            by_cases hyx : ltS y x = true
            · have HA2 : Hid (AscB ltS (t.take (i + 1))) := by
                show AscB _ _
                rw [HTk.out.1]
                exact (ascB_snoc ltS_ok.toLtPre).2 ⟨HA.out, fun z hz => by rw [HTk.out.2] at hz; cases hz; exact hyx⟩
              have hge : binOp .geq 9 (.string y) (.string x) = pure (.bool false) := by simp [binOp, Op.stringOp, show Op.bytesLess y.toList x.toList = true from hyx]
              have HQ : Hid (i = q + 1) := hq
              clear hyx hq
              go_wp2_with fail
              go_quiet (fail)
              have HO1 := Lib.hid (HO.out.drewN nq)
              have hcx1 : (wr.drewN nq).cell? ⟨b, off + i, none⟩ = some (.string x) := hcx
              clear hcx HO
              generalize wr.drewN nq = wn at *
              go_wp2_with fail
              refine (HY.out _).mono ?_
              rintro e w2 ⟨r, rfl, hM⟩
              have HO2 := Lib.hid (HO1.out.below hM.2)
              have HRr := Lib.hid (Rd.of_owns hM.1)
              obtain ⟨pr, cr, hr⟩ := HRr.out.shape
              subst hr
              have HO0 := Lib.hid HO2.out.base0
              have HBd : Hid (((encPre t i).length + (bytesOf (numsOf x)).length) * 1 ≤ 140737488355328 ∧ (encPre t i).length + (bytesOf (numsOf x)).length ≤ maxLen) := by
                show _ ∧ _
                have h1 := HLx.out; have h2 := HNn.out; have h3 := hi
                unfold maxLen
                omega
              clear hM HO1 hcx1
              generalize bytesOf (numsOf x) = bx at *
              generalize encPre t i = ep at *
              go_wp2_with (at_builtin; refine wpList_extend Try.elemU8 w2 _ _ _ _ _ _ HO0.out HRr.out (u8s_oneCell _) HBd.out rfl _ _ rfl rfl rfl ?_)
              intro v3 w3 k1 k2 k3
              have HO3 : Hid (OwnB w w3 (encPre t (i + 1)) v3) := by show OwnB _ _ _ _; rw [HNx.out]; exact HO2.out.extended k1 k2 k3
              clear k1 k2 k3 HO0 HRr HO2
              go_wp2_with fail
              go_round
              case rel => exact ⟨i + 1, by omega, by go_num, HA2.out, HO3.out⟩
              case measure => simp [intOf]; omega
            · have hyf : ltS y x = false := by simpa using hyx
              have hge : binOp .geq 9 (.string y) (.string x) = pure (.bool true) := by simp [binOp, Op.stringOp, show Op.bytesLess y.toList x.toList = false from hyf]
              have HE : Hid (encSyR t = (16, [])) := by
                show _ = _
                rw [encSyR, if_neg (not_not_intro HFi.out), if_pos]
                intro ha
                have h := List.pairwise_iff_getElem.1 ha q i (by omega) hlt (by omega)
                have h1 : t[q]'(by omega) = y := by
                  have h2 := HTk.out.2
                  rw [hq, List.take_add_one, List.getElem?_eq_getElem (show q < t.length by omega)] at h2
                  simp only [Option.toList_some, List.getLast?_concat, Option.some.injEq] at h2
                  exact h2
                have h3 : t[i] = x := (List.getElem?_eq_some_iff.1 HX.out).2
                rw [h1, h3, hyf] at h
                cases h
              clear hyx hyf hq
              go_wp2_with fail
              go_quiet (fail)
              have HB2 : Hid (Below w.heap.size w (wr.drewN nq)) := (HO.out.drewN nq).bel
              generalize wr.drewN nq = wn at *
              go_wp2_with fail
              go_ret2
              rw [HE.out]
              exact ⟨⟨_, rfl, Rd.nil _ _, fun k e => by cases e⟩, HB2.out⟩
        · have hlt' : ¬ (i : Int) < (t.length : Int) := by omega
          have HE : Hid (encSyR t = (0, encPre t i)) := by
            show _ = _
            have h := HA.out
            rw [List.take_of_length_le (by omega)] at h
            rw [encSyR_of HFi.out h, encSy, encPre, List.take_of_length_le (by omega)]
          obtain ⟨pv, cv, hvv⟩ := HO.out.shape
          subst hvv
          go_wp2_with fail
          go_ret2
          rw [HE.out]
          exact ⟨⟨_, rfl, HO.out.rd, fun k hk => (HO.out.row.lt k hk).1⟩, HO.out.bel⟩
end Go.Proofs.Yteiffpninifjlaa

end

section
/- A region that draws its order, walked in ONE order: all but the calls yield the same in whatever world, so they are taken before a call; the calls come up alone. No program in sight. -/
namespace Go.Proofs.Yteiffpninifjlaa
open Go Go.RowKit

/-- The order L is allowed to stand for all: an operation that is no call comes up free; a call comes up alone. -/
def orderB (md : Region.Mode) (ops : Array Oper) (calls : List Nat) : List Nat → Array Bool → Bool
  | [], listed => (Region.ready md ops listed).isEmpty
  | i :: rest, listed => (if calls.contains i then Region.ready md ops listed == [i] else Region.free md ops listed i && (Region.ready md ops listed).contains i) && orderB md ops calls rest (listed.setIfInBounds i true)

/-- The operations of a region in the order L. -/
def taken (l : List Oper) (L : List Nat) : List (Nat × Oper) := L.map fun i => (i, (l[i]?).getD { dst := none, op := .move (.tmp 0), type := 0, pos := "", after := #[], guard := none })

def wpTake (P : Program) (ops : Array Oper) (Q : Exit → Act → World → Prop) (calls : List Nat) : List (Nat × Oper) → Act → World → Prop
  | [], a, w => Q .normal a w
  | (i, o) :: rest, a, w => if Region.wanted o (yielded ops a.tmps) = true then
        (if calls.contains i = true then o.wp P a w (wpTake P ops Q calls rest) Q else ∃ v, (∀ w, (execOp a.eval o).run P w = .ok (.value v) w) ∧ wpTake P ops Q calls rest (a.put o.dst v) w)
      else wpTake P ops Q calls rest (a.put o.dst undef) w

theorem put_defers (a : Act) (d : Option Tmp) (v : Value) : (a.put d v).defers = a.defers := by cases d <;> rfl

section
variable {P : Program} {l : List Oper} {Q : Exit → Act → World → Prop} {md : Region.Mode} {calls : List Nat}

theorem wpAny_of_take (hs : Region.noSelect l.toArray = true) (hQ : ∀ c (a a' : Act) w, a.defers = a'.defers → Q (.panic c) a w → Q (.panic c) a' w) : ∀ (L : List Nat) (listed : Array Bool) (a : Act) (w : World) (fuel : Nat), L.length ≤ fuel →
    (∀ i ∈ L, i < l.length) → orderB md l.toArray calls L listed = true → wpTake P l.toArray Q calls (taken l L) a w → wpAny P md l.toArray Q fuel listed a w
  | [], listed, a, w, fuel, _, _, hB, h => wpAny_done (by simpa [orderB] using hB) h fuel
  | i :: rest, listed, a, w, 0, hf, _, _, _ => by simp at hf
  | i :: rest, listed, a, w, fuel + 1, hf, hl, hB, h => by
    have hf' : rest.length ≤ fuel := by simpa using hf
    have hl' : ∀ j ∈ rest, j < l.length := fun j hj => hl j (by simp [hj])
    have hi : i < l.length := hl i (by simp)
    unfold orderB at hB
    rw [Bool.and_eq_true] at hB
    obtain ⟨h1, h2⟩ := hB
    have ho : l.toArray[i]? = some l[i] := by simp [hi]
    have e : taken l (i :: rest) = (i, l[i]) :: taken l rest := by simp [taken, hi]
    rw [e] at h
    unfold wpTake at h
    generalize l[i] = o at *
    by_cases hc : calls.contains i = true
    · rw [if_pos hc] at h1 h
      have hr : Region.ready md l.toArray listed = [i] := by simpa using h1
      refine wpAny_all hr (by simp) (fun j hj => ?_)
      obtain rfl : j = i := by simpa using hj
      unfold wpOp
      simp only [ho]
      split
      · next hw =>
        rw [if_pos hw] at h
        exact .inl (Oper.wp_mono (fun a w h => wpAny_of_take hs hQ rest _ a w fuel hf' hl' h2 h) h)
      · next hw =>
        rw [if_neg hw] at h
        exact wpAny_of_take hs hQ rest _ _ w fuel hf' hl' h2 h
    · rw [if_neg hc] at h1 h
      rw [Bool.and_eq_true] at h1
      by_cases hw : Region.wanted o (yielded l.toArray a.tmps) = true
      · rw [if_pos hw] at h
        obtain ⟨v, hv, h⟩ := h
        exact wpAny_take ho hs h1.1 h1.2 (fun c a w h => hQ c _ _ w (put_defers _ _ _) h) (.inl ⟨hw, hv⟩) (wpAny_of_take hs hQ rest _ _ w fuel hf' hl' h2 h)
      · rw [if_neg hw] at h
        exact wpAny_take ho hs h1.1 h1.2 (fun c a w h => hQ c _ _ w (put_defers _ _ _) h) (.inr ⟨by simpa using hw, rfl⟩) (wpAny_of_take hs hQ rest _ _ w fuel hf' hl' h2 h)

/-- A region that draws its order, by one order of it. -/
theorem wp_region_take {id : Nat} {a : Act} {w : World} (calls L : List Nat) (hm : P.follows .mixedOrders = true) (hs : Region.noSelect l.toArray = true) (hB : (decide (L.length ≤ l.length) && (L.all (fun i => decide (i < l.length)) && orderB .any l.toArray calls L (Array.replicate l.length false))) = true)
    (hQ : ∀ c (a a' : Act) w, a.defers = a'.defers → Q (.panic c) a w → Q (.panic c) a' w) (h : wpTake P l.toArray Q calls (taken l L) a w.drew) : (Code.region id l.toArray true).wp P Q a w := by
  rw [Bool.and_eq_true, Bool.and_eq_true] at hB
  refine wp_region_any hm (wpAny_of_take hs hQ L _ a _ _ (by simpa using hB.1) (by simpa using hB.2.1) (by simpa using hB.2.2) h)

variable {ops : Array Oper}
theorem take_nil {a : Act} {w : World} (h : Q .normal a w) : wpTake P ops Q calls [] a w := h
theorem take_skip {i : Nat} {o : Oper} {rest : List (Nat × Oper)} {a : Act} {w : World} (hw : Region.wanted o (yielded ops a.tmps) = false) (h : wpTake P ops Q calls rest (a.put o.dst undef) w) : wpTake P ops Q calls ((i, o) :: rest) a w := by
  unfold wpTake
  simp only [hw]
  exact h
theorem take_move {i : Nat} {o : Oper} {rest : List (Nat × Oper)} {a : Act} {w : World} (x : Operand) (hx : o.op = .move x ∨ o.op = .assign x) (hc : calls.contains i = false) (hw : Region.wanted o (yielded ops a.tmps) = true)
    (h : wpTake P ops Q calls rest (a.put o.dst (a.eval x)) w) : wpTake P ops Q calls ((i, o) :: rest) a w := by
  unfold wpTake
  simp only [hw, hc]
  refine ⟨_, fun w => ?_, h⟩
  rcases hx with hx | hx <;> unfold execOp <;> simp [hx]
theorem take_blind {i : Nat} {o : Oper} {rest : List (Nat × Oper)} {a : Act} {w : World} (hc : calls.contains i = false) (hw : Region.wanted o (yielded ops a.tmps) = true)
    (h : ∃ v, (∀ w, (execOp a.eval o).run P w = .ok (.value v) w) ∧ wpTake P ops Q calls rest (a.put o.dst v) w) : wpTake P ops Q calls ((i, o) :: rest) a w := by
  unfold wpTake
  simp only [hw, hc]
  exact h
theorem take_call {i : Nat} {o : Oper} {rest : List (Nat × Oper)} {a : Act} {w : World} (hc : calls.contains i = true) (hw : Region.wanted o (yielded ops a.tmps) = true)
    (h : ∀ K : Act → World → Prop, (∀ a w, wpTake P ops Q calls rest a w → K a w) → o.wp P a w K Q) : wpTake P ops Q calls ((i, o) :: rest) a w := by
  unfold wpTake
  simp only [hw, hc]
  exact h _ (fun _ _ h => h)
end
end Go.Proofs.Yteiffpninifjlaa

end

section
/- 's[i:]' of a slice that is read. No program in sight. -/
namespace Go.Proofs.Yteiffpninifjlaa
open Go Go.RowKit

theorem Addr.add_add (ad : Addr) (i j : Nat) : (ad.add i).add j = ad.add (i + j) := by
  unfold Addr.add
  by_cases hi : i = 0
  · simp [hi]
  · by_cases hj : j = 0
    · simp [hi, hj]
    · simp [hi, hj, Nat.add_assoc]

theorem Rd.from {w : World} {sz : Nat} {p : Option Addr} {n c : Nat} {vs : List Value} (h : Rd w sz (.slice p n c) n vs) (i : Nat) (hi : i ≤ n) :
    Rd w sz (sliced p i n c sz) (n - i) (vs.drop (i * sz)) := by
  obtain ⟨p', c', e, h1, h2, h3, h4, h5⟩ := h
  cases e
  refine ⟨_, _, rfl, by rw [List.length_drop, h1, Nat.sub_mul], by omega, by omega, ?_, ?_⟩
  · intro hp
    split at hp
    · obtain ⟨rfl, rfl⟩ := h4 hp; simp
    · cases p with
      | none => obtain ⟨rfl, rfl⟩ := h4 rfl; simp
      | some a => simp at hp
  · intro ad had j u hu
    rw [List.getElem?_drop] at hu
    split at had
    · next hc =>
      have hlt := (List.getElem?_eq_some_iff.1 hu).1
      rw [h1] at hlt
      have : n = i := by omega
      subst this
      omega
    · cases p with
      | none => simp at had
      | some a =>
        simp only [Option.map_some, Option.some.injEq] at had
        subst had
        rw [Addr.add_add]
        exact h5 a rfl _ u hu

theorem Rd.upto {w : World} {sz : Nat} {p : Option Addr} {n c : Nat} {vs : List Value} (h : Rd w sz (.slice p n c) n vs) (i : Nat) (hi : i ≤ n) :
    Rd w sz (.slice p i c) i (vs.take (i * sz)) := by
  obtain ⟨p', c', e, h1, h2, h3, h4, h5⟩ := h
  cases e
  refine ⟨_, _, rfl, ?_, by omega, by omega, fun e => ?_, ?_⟩
  · rw [List.length_take, h1]
    exact Nat.min_eq_left (Nat.mul_le_mul_right _ hi)
  · obtain ⟨rfl, rfl⟩ := h4 e; exact ⟨by omega, rfl⟩
  · intro ad had j u hu
    refine h5 ad had j u ?_
    rw [List.getElem?_take] at hu
    split at hu
    · exact hu
    · cases hu
theorem Rd.fromTo {w : World} {sz : Nat} {p : Option Addr} {n c : Nat} {vs : List Value} (h : Rd w sz (.slice p n c) n vs) (i k : Nat) (hi : i ≤ k) (hk : k ≤ n) :
    Rd w sz (sliced p i k c sz) (k - i) ((vs.take (k * sz)).drop (i * sz)) := (h.upto k hk).from i hi
theorem sliced_zero (p : Option Addr) (n c sz : Nat) : sliced p 0 n c sz = .slice p n c := by
  unfold sliced
  split
  · simp
  · cases p with
    | none => simp
    | some a => simp [Addr.add]

section
variable {P : Program}
theorem wpList_upto {t e : TypeId} {sz bytes : Nat} (hE : Elem P t e sz bytes) (w : World) (p : Option Addr) (n c i : Nat) (hi : i ≤ n) (hnc : n ≤ c)
    {ops : Array Oper} {rest : List Oper} {o : Oper} {a : Act} {Q : Exit → Act → World → Prop} (hgd : Region.wanted o (yielded ops a.tmps) = true) (s x : Operand) (ho : o.op = .slice t s none (some x) none)
    (hs : a.eval s = .slice p n c) (hx : a.eval x = .int .i64 (i : Int))
    (h : wpList P ops Q rest (a.put o.dst (.slice p i c)) w) : wpList P ops Q (o :: rest) a w := by
  obtain ⟨inf, z, hinf, hz, hsize, hby, hzs⟩ := hE.hi
  refine BigFrame.wpList_want hgd fun K hK => ?_
  have helem : P.elem t = e := by simp [Program.elem, hE.ht]
  have hu : P.underlying t = some (.slice (P.elem t)) := by rw [helem]; exact hE.ht
  have hcell : P.cellsOf (P.elem t) = sz := by rw [helem]; simp [Program.cellsOf, hinf, hsize]
  have hr : (Instr.sliceAt t (.slice p n c) none (some (.int .i64 (i : Int))) none).run P w = .ok (.slice p i c) w := by
    have hsz := run_sizeOf (w := w) (show P.info? (P.elem t) = some inf by rw [helem]; exact hinf)
    rw [run_sliceAt_slice (h := hu), run_slice_h (ht := hu) (h0 := by omega) (h2 := by omega), hsz, hcell]
    simp only [Result.andThen, Int.toNat_natCast, sliced_zero]
  unfold Oper.wp execOp
  simp only [ho, Sem.run_bind, Sem.run_pure, Result.andThen_ok, hs, hx, hr, Option.map_some, Option.map_none]
  exact hK _ _ h
theorem wpList_from {t e : TypeId} {sz bytes : Nat} (hE : Elem P t e sz bytes) (w : World) (v : Value) (n i : Nat) (vs : List Value) (h0 : Rd w sz v n vs) (hi : i ≤ n)
    {ops : Array Oper} {rest : List Oper} {o : Oper} {a : Act} {Q : Exit → Act → World → Prop} (hgd : Region.wanted o (yielded ops a.tmps) = true) (s x : Operand) (ho : o.op = .slice t s (some x) none none)
    (hs : a.eval s = v) (hx : a.eval x = .int .i64 (i : Int))
    (h : ∀ p c, Rd w sz (.slice p (n - i) c) (n - i) (vs.drop (i * sz)) → wpList P ops Q rest (a.put o.dst (.slice p (n - i) c)) w) : wpList P ops Q (o :: rest) a w := by
  obtain ⟨inf, z, hinf, hz, hsize, hby, hzs⟩ := hE.hi
  obtain ⟨p, c, hv⟩ := h0.shape
  subst hv
  refine BigFrame.wpList_want hgd fun K hK => ?_
  have helem : P.elem t = e := by simp [Program.elem, hE.ht]
  have hu : P.underlying t = some (.slice (P.elem t)) := by rw [helem]; exact hE.ht
  have hcell : P.cellsOf (P.elem t) = sz := by rw [helem]; simp [Program.cellsOf, hinf, hsize]
  have hr : (Instr.sliceAt t (.slice p n c) (some (.int .i64 (i : Int))) none none).run P w = .ok (sliced p i n c sz) w := by
    have hsz := run_sizeOf (w := w) (show P.info? (P.elem t) = some inf by rw [helem]; exact hinf)
    rw [run_sliceAt_slice (h := hu), run_slice_l (ht := hu) (h0 := by omega) (h1 := by omega), hsz, hcell]
    simp [Result.andThen]
  unfold Oper.wp execOp
  simp only [ho, Sem.run_bind, Sem.run_pure, Result.andThen_ok, hs, hx, hr, Option.map_some, Option.map_none]
  exact hK _ _ (h _ _ (h0.from i hi))
end
end Go.Proofs.Yteiffpninifjlaa

end

section
/- A region that draws its order, walked in ONE order, where operations beside the calls may read memory: a condition S on the world, which every call keeps, says what they read. No program in sight. -/
namespace Go.Proofs.Yteiffpninifjlaa
open Go Go.RowKit

def wpTakeH (P : Program) (ops : Array Oper) (Q : Exit → Act → World → Prop) (calls : List Nat) (S : World → Prop) : List (Nat × Oper) → Act → World → Prop
  | [], a, w => Q .normal a w
  | (i, o) :: rest, a, w => if Region.wanted o (yielded ops a.tmps) = true then
        (if calls.contains i = true then o.wp P a w (fun a' w' => S w' ∧ wpTakeH P ops Q calls S rest a' w') Q else ∃ v, (∀ w, S w → (execOp a.eval o).run P w = .ok (.value v) w) ∧ wpTakeH P ops Q calls S rest (a.put o.dst v) w)
      else wpTakeH P ops Q calls S rest (a.put o.dst undef) w

section
variable {P : Program} {l : List Oper} {Q : Exit → Act → World → Prop} {md : Region.Mode} {calls : List Nat} {S : World → Prop}

theorem wpAnyH_of_take (hs : Region.noSelect l.toArray = true) (hQ : ∀ c (a a' : Act) w, a.defers = a'.defers → Q (.panic c) a w → Q (.panic c) a' w) : ∀ (L : List Nat) (listed : Array Bool) (a : Act) (w : World) (fuel : Nat), L.length ≤ fuel →
    (∀ i ∈ L, i < l.length) → orderB md l.toArray calls L listed = true → S w → wpTakeH P l.toArray Q calls S (taken l L) a w → wpAnyH P md l.toArray Q S fuel listed a w
  | [], listed, a, w, fuel, _, _, hB, _, h => wpAnyH_done (by simpa [orderB] using hB) h fuel
  | i :: rest, listed, a, w, 0, hf, _, _, _, _ => by simp at hf
  | i :: rest, listed, a, w, fuel + 1, hf, hl, hB, hS, h => by
    have hf' : rest.length ≤ fuel := by simpa using hf
    have hl' : ∀ j ∈ rest, j < l.length := fun j hj => hl j (by simp [hj])
    have hi : i < l.length := hl i (by simp)
    unfold orderB at hB
    rw [Bool.and_eq_true] at hB
    obtain ⟨h1, h2⟩ := hB
    have ho : l.toArray[i]? = some l[i] := by simp [hi]
    have e : taken l (i :: rest) = (i, l[i]) :: taken l rest := by simp [taken, hi]
    rw [e] at h
    unfold wpTakeH at h
    generalize l[i] = o at *
    by_cases hc : calls.contains i = true
    · rw [if_pos hc] at h1 h
      have hr : Region.ready md l.toArray listed = [i] := by simpa using h1
      refine wpAnyH_all hr (by simp) (fun j hj => ?_)
      obtain rfl : j = i := by simpa using hj
      unfold wpOp
      simp only [ho]
      split
      · next hw =>
        rw [if_pos hw] at h
        exact .inl (Oper.wp_mono (fun a w h => ⟨h.1, wpAnyH_of_take hs hQ rest _ a w fuel hf' hl' h2 h.1 h.2⟩) h)
      · next hw =>
        rw [if_neg hw] at h
        exact ⟨hS, wpAnyH_of_take hs hQ rest _ _ w fuel hf' hl' h2 hS h⟩
    · rw [if_neg hc] at h1 h
      rw [Bool.and_eq_true] at h1
      by_cases hw : Region.wanted o (yielded l.toArray a.tmps) = true
      · rw [if_pos hw] at h
        obtain ⟨v, hv, h⟩ := h
        exact wpAnyH_take ho hs h1.1 h1.2 (fun c a w h => hQ c _ _ w (put_defers _ _ _) h) (.inl ⟨hw, hv⟩) hS (wpAnyH_of_take hs hQ rest _ _ w fuel hf' hl' h2 hS h)
      · rw [if_neg hw] at h
        exact wpAnyH_take ho hs h1.1 h1.2 (fun c a w h => hQ c _ _ w (put_defers _ _ _) h) (.inr ⟨by simpa using hw, rfl⟩) hS (wpAnyH_of_take hs hQ rest _ _ w fuel hf' hl' h2 hS h)

theorem wp_region_takeH {id : Nat} {a : Act} {w : World} (S : World → Prop) (calls L : List Nat) (hm : P.follows .mixedOrders = true) (hs : Region.noSelect l.toArray = true) (hB : (decide (L.length ≤ l.length) && (L.all (fun i => decide (i < l.length)) && orderB .any l.toArray calls L (Array.replicate l.length false))) = true)
    (hQ : ∀ c (a a' : Act) w, a.defers = a'.defers → Q (.panic c) a w → Q (.panic c) a' w) (hS : S w.drew) (h : wpTakeH P l.toArray Q calls S (taken l L) a w.drew) : (Code.region id l.toArray true).wp P Q a w := by
  rw [Bool.and_eq_true, Bool.and_eq_true] at hB
  refine wp_region_held hm (wpAnyH_of_take hs hQ L _ a _ _ (by simpa using hB.1) (by simpa using hB.2.1) (by simpa using hB.2.2) hS h)

variable {ops : Array Oper}
theorem takeH_nil {a : Act} {w : World} (h : Q .normal a w) : wpTakeH P ops Q calls S [] a w := h
theorem takeH_skip {i : Nat} {o : Oper} {rest : List (Nat × Oper)} {a : Act} {w : World} (hw : Region.wanted o (yielded ops a.tmps) = false) (h : wpTakeH P ops Q calls S rest (a.put o.dst undef) w) : wpTakeH P ops Q calls S ((i, o) :: rest) a w := by
  unfold wpTakeH
  simp only [hw]
  exact h
theorem takeH_blind {i : Nat} {o : Oper} {rest : List (Nat × Oper)} {a : Act} {w : World} (hc : calls.contains i = false) (hw : Region.wanted o (yielded ops a.tmps) = true)
    (h : ∃ v, (∀ w, (execOp a.eval o).run P w = .ok (.value v) w) ∧ wpTakeH P ops Q calls S rest (a.put o.dst v) w) : wpTakeH P ops Q calls S ((i, o) :: rest) a w := by
  unfold wpTakeH
  simp only [hw, hc]
  obtain ⟨v, h1, h2⟩ := h
  exact ⟨v, fun w _ => h1 w, h2⟩
/-- An operation that reads memory: what it yields holds in every world that meets S. -/
theorem takeH_read {i : Nat} {o : Oper} {rest : List (Nat × Oper)} {a : Act} {w : World} (hc : calls.contains i = false) (hw : Region.wanted o (yielded ops a.tmps) = true) (v : Value)
    (h1 : ∀ w, S w → (execOp a.eval o).run P w = .ok (.value v) w) (h : wpTakeH P ops Q calls S rest (a.put o.dst v) w) : wpTakeH P ops Q calls S ((i, o) :: rest) a w := by
  unfold wpTakeH
  simp only [hw, hc]
  exact ⟨v, h1, h⟩
theorem takeH_call {i : Nat} {o : Oper} {rest : List (Nat × Oper)} {a : Act} {w : World} (hc : calls.contains i = true) (hw : Region.wanted o (yielded ops a.tmps) = true)
    (h : ∀ K : Act → World → Prop, (∀ a w, S w → wpTakeH P ops Q calls S rest a w → K a w) → o.wp P a w K Q) : wpTakeH P ops Q calls S ((i, o) :: rest) a w := by
  unfold wpTakeH
  simp only [hw, hc]
  exact h (fun a' w' => S w' ∧ wpTakeH P ops Q calls S rest a' w') (fun _ _ h1 h2 => ⟨h1, h2⟩)
/-- An operation that comes up alone, run in the world at hand. -/
theorem takeH_now {i : Nat} {o : Oper} {rest : List (Nat × Oper)} {a : Act} {w : World} (hc : calls.contains i = true) (hw : Region.wanted o (yielded ops a.tmps) = true) (v : Value) (h1 : (execOp a.eval o).run P w = .ok (.value v) w) (hS : S w)
    (h : wpTakeH P ops Q calls S rest (a.put o.dst v) w) : wpTakeH P ops Q calls S ((i, o) :: rest) a w := by
  unfold wpTakeH
  simp only [hw, hc]
  show o.wp P a w (fun a' w' => S w' ∧ wpTakeH P ops Q calls S rest a' w') Q
  unfold Oper.wp
  rw [h1]
  exact ⟨hS, h⟩

/-- What 's[:i]' yields. -/
theorem exec_upto {t e : TypeId} {sz bytes : Nat} (hE : Elem P t e sz bytes) (w : World) (p : Option Addr) (n c i : Nat) (hi : i ≤ n) (hnc : n ≤ c) {o : Oper} {a : Act} (s x : Operand) (ho : o.op = .slice t s none (some x) none)
    (hs : a.eval s = .slice p n c) (hx : a.eval x = .int .i64 (i : Int)) : (execOp a.eval o).run P w = .ok (.value (.slice p i c)) w := by
  obtain ⟨inf, z, hinf, hz, hsize, hby, hzs⟩ := hE.hi
  have helem : P.elem t = e := by simp [Program.elem, hE.ht]
  have hu : P.underlying t = some (.slice (P.elem t)) := by rw [helem]; exact hE.ht
  have hcell : P.cellsOf (P.elem t) = sz := by rw [helem]; simp [Program.cellsOf, hinf, hsize]
  have hr : (Instr.sliceAt t (.slice p n c) none (some (.int .i64 (i : Int))) none).run P w = .ok (.slice p i c) w := by
    have hsz := run_sizeOf (w := w) (show P.info? (P.elem t) = some inf by rw [helem]; exact hinf)
    rw [run_sliceAt_slice (h := hu), run_slice_h (ht := hu) (h0 := by omega) (h2 := by omega), hsz, hcell]
    simp only [Result.andThen, Int.toNat_natCast, sliced_zero]
  unfold execOp
  simp only [ho, Sem.run_bind, Sem.run_pure, Result.andThen_ok, hs, hx, hr, Option.map_some, Option.map_none]
/-- What 's[i:]' yields. -/
theorem exec_from {t e : TypeId} {sz bytes : Nat} (hE : Elem P t e sz bytes) (w : World) (p : Option Addr) (n c i : Nat) (hi : i ≤ n) {o : Oper} {a : Act} (s x : Operand) (ho : o.op = .slice t s (some x) none none)
    (hs : a.eval s = .slice p n c) (hx : a.eval x = .int .i64 (i : Int)) : (execOp a.eval o).run P w = .ok (.value (sliced p i n c sz)) w := by
  obtain ⟨inf, z, hinf, hz, hsize, hby, hzs⟩ := hE.hi
  have helem : P.elem t = e := by simp [Program.elem, hE.ht]
  have hu : P.underlying t = some (.slice (P.elem t)) := by rw [helem]; exact hE.ht
  have hcell : P.cellsOf (P.elem t) = sz := by rw [helem]; simp [Program.cellsOf, hinf, hsize]
  have hr : (Instr.sliceAt t (.slice p n c) (some (.int .i64 (i : Int))) none none).run P w = .ok (sliced p i n c sz) w := by
    have hsz := run_sizeOf (w := w) (show P.info? (P.elem t) = some inf by rw [helem]; exact hinf)
    rw [run_sliceAt_slice (h := hu), run_slice_l (ht := hu) (h0 := by omega) (h1 := by omega), hsz, hcell]
    simp [Result.andThen]
  unfold execOp
  simp only [ho, Sem.run_bind, Sem.run_pure, Result.andThen_ok, hs, hx, hr, Option.map_some, Option.map_none]
/-- What a conversion yields. -/
theorem exec_convert {o : Oper} {a : Act} {w : World} (src dst : TypeId) (s : Operand) {v u : Value} (ho : o.op = .convert src dst s) (hs : a.eval s = v) (h : (convert src dst v).run P w = .ok u w) : (execOp a.eval o).run P w = .ok (.value u) w := by
  unfold execOp
  simp only [ho, Sem.run_bind, Sem.run_pure, Result.andThen_ok, hs, h]
end
end Go.Proofs.Yteiffpninifjlaa

end

section
/- Layer 4: the reference's reader: Fail, End. -/
set_option linter.unusedVariables false
namespace Go.Proofs.Yteiffpninifjlaa
open Go Go.RowKit

/-- The reference's reader at block q: its bytes, its offset, its error. -/
structure RRd (w : World) (q : Nat) (v : Value) (B : List Nat) (a : Nat) (e : Int) : Prop where
  blk : Blk w q [v, .int .i64 (a : Int), .int .i64 e]
  rd : Rd w 1 v B.length (u8s B)
  ne : ∀ k, v.ownBlock = some k → k ≠ q
theorem RRd.mods {S : Nat → Prop} {w w' : World} {q : Nat} {v : Value} {B : List Nat} {a : Nat} {e : Int} (h : RRd w q v B a e) (hm : Mods S w w') (hq : ¬ S q) (hv : ∀ k, v.ownBlock = some k → ¬ S k) : RRd w' q v B a e := ⟨hm.blk h.blk hq, h.rd.mods hm hv, h.ne⟩
theorem RRd.below {w w' : World} {q : Nat} {v : Value} {B : List Nat} {a : Nat} {e : Int} (h : RRd w q v B a e) (hb : Below w.heap.size w w') : RRd w' q v B a e := h.mods (Mods.of_below hb (fun _ => False)) (fun h => h) (fun _ _ h => h)
theorem RRd.drew {w : World} {q : Nat} {v : Value} {B : List Nat} {a : Nat} {e : Int} (h : RRd w q v B a e) : RRd w.drew q v B a e := h.mods (Mods.drew (fun _ => False) w) (fun h => h) (fun _ _ h => h)
theorem RRd.drewN {w : World} {q : Nat} {v : Value} {B : List Nat} {a : Nat} {e : Int} (h : RRd w q v B a e) (n : Nat) : RRd (w.drewN n) q v B a e := h.mods (Mods.drewN (fun _ => False) w n) (fun h => h) (fun _ _ h => h)
theorem RRd.cells {w : World} {q : Nat} {v : Value} {B : List Nat} {a : Nat} {e : Int} (h : RRd w q v B a e) : w.cell? ⟨q, 0, none⟩ = some v ∧ w.cell? ⟨q, 1, none⟩ = some (.int .i64 (a : Int)) ∧ w.cell? ⟨q, 2, none⟩ = some (.int .i64 e) ∧ w.frozen? ⟨q, 1, none⟩ = false ∧ w.frozen? ⟨q, 2, none⟩ = false :=
  ⟨by rw [h.blk.cell]; rfl, by rw [h.blk.cell]; rfl, by rw [h.blk.cell]; rfl, h.blk.free 1, h.blk.free 2⟩
theorem RRd.setErr {w : World} {q : Nat} {v : Value} {B : List Nat} {a : Nat} {e : Int} (h : RRd w q v B a e) (x : Int) : RRd (w.setCell ⟨q, 2, none⟩ (.int .i64 x)) q v B a x :=
  ⟨h.blk.set 2 _, h.rd.mods (Mods.set (fun j => j = q) _ _ _ (fun _ => rfl)) h.ne, h.ne⟩
theorem RRd.setAt {w : World} {q : Nat} {v : Value} {B : List Nat} {a : Nat} {e : Int} (h : RRd w q v B a e) (b : Nat) : RRd (w.setCell ⟨q, 1, none⟩ (.int .i64 (b : Int))) q v B b e :=
  ⟨h.blk.set 1 _, h.rd.mods (Mods.set (fun j => j = q) _ _ _ (fun _ => rfl)) h.ne, h.ne⟩
theorem mods_set (w : World) (q i : Nat) (u : Value) : Mods (fun k => k = q) w (w.setCell ⟨q, i, none⟩ u) := Mods.set _ _ _ _ (fun _ => rfl)

/-- What a read leaves: its value and the new offset, or zero and the error. -/
def Got {α : Type} (o : Out α) (val : α → Value) (z : Value) (inv : Nat → Int → Prop) (a : Nat) (en : Ending) : Prop := match o with
  | .ok x b => en = .returned (val x) ∧ inv b 0
  | .bad e => en = .returned z ∧ inv a (e : Int)

theorem rr_fail (q : Nat) (v : Value) (B : List Nat) (a : Nat) (e x : Int) (w : World) (h : RRd w q v B a e) :
    Calls Try.prog 42 #[.pointer (some ⟨q, 0, none⟩), .int .i64 x] w fun en w' => en = .returned (.tuple #[]) ∧ RRd w' q v B a (if e = 0 then x else e) ∧ Mods (fun k => k = q) w w' := by
  obtain ⟨c0, c1, c2, f1, f2⟩ := h.cells
  have H := Lib.hid h
  clear h
  by_cases he : e = 0
  · subst he
    go_enter Try.func42, Try.ntmps42
    go_wp2
    go_end0
    exact ⟨rfl, by simpa using H.out.setErr x, mods_set _ _ _ _⟩
  · go_enter Try.func42, Try.ntmps42
    go_wp2
    go_end0
    exact ⟨rfl, by simpa [he] using H.out, Mods.refl _ _⟩

set_option maxHeartbeats 400000 in
theorem rr_end (q : Nat) (v : Value) (B : List Nat) (a : Nat) (e : Int) (w : World) (h : RRd w q v B a e) :
    Calls Try.prog 43 #[.pointer (some ⟨q, 0, none⟩)] w fun en w' => en = .returned (.int .i64 (if e = 0 ∧ a < B.length then 4 else e)) ∧ ∃ n, w' = w.drewN n := by
  obtain ⟨c0, c1, c2, f1, f2⟩ := h.cells
  obtain ⟨p, c, hv⟩ := h.rd.shape
  subst hv
  clear h
  by_cases he : e = 0
  · subst he
    by_cases hlt : a < B.length
    · have hlt2 : (a : Int) < (B.length : Int) := by omega
      have HE : Hid ((if (0 : Int) = 0 ∧ a < B.length then (4 : Int) else 0) = 4) := if_pos ⟨rfl, hlt⟩
      rw [HE.out]
      go_enter Try.func43, Try.ntmps43
      go_wp2_with fail
      go_quiet (fail)
      go_wp2_with fail
      go_ret
      exact ⟨rfl, _, rfl⟩
    · have hlt2 : ¬ (a : Int) < (B.length : Int) := by omega
      have HE : Hid ((if (0 : Int) = 0 ∧ a < B.length then (4 : Int) else 0) = 0) := if_neg (fun h => hlt h.2)
      rw [HE.out]
      go_enter Try.func43, Try.ntmps43
      go_wp2_with fail
      go_quiet (fail)
      go_wp2_with fail
      go_ret
      exact ⟨rfl, _, rfl⟩
  · have HE : Hid ((if e = 0 ∧ a < B.length then (4 : Int) else e) = e) := if_neg (fun h => he h.1)
    rw [HE.out]
    have heb : (e == 0) = false := by rw [beq_eq_false_iff_ne]; exact he
    go_enter Try.func43, Try.ntmps43
    go_wp2_with fail
    go_quiet (fail)
    go_wp2_with fail
    go_ret
    exact ⟨rfl, _, rfl⟩
end Go.Proofs.Yteiffpninifjlaa

end
