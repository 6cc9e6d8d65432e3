/- Ref14A, PoS, Ref15E, Ref04U, Ref04V, Ref13A, CntAny, QrA, in one text. -/
import Derived.Test.YtpjfhakmffcolaaMrg4
import Derived.Test.YtpjfhakmffcolaaMrg1
import Derived.Test.YtpjfhakmffcolaaMrg2
import Derived.Test.YtpjfhakmffcolaaMrg7
import Derived.Test.YtpjfhakmffcolaaMrg5
import Derived.Test.YtpjfhakmffcolaaMrg14
import Derived.Test.YtpjfhakmffcolaaMrg13
import Derived.Test.YtpjfhakmffcolaaMrg6

section
/- Layer 14: the reference's IsSorted, Has, Difference, Complement. -/
set_option linter.unusedVariables false
set_option maxRecDepth 20000
namespace Go.Proofs.Ytpjfhakmffcolaa
open Go Go.RowKit
theorem asc_take {l : List Int} {i : Nat} {x y : Int} (hx : l[i]? = some x) (hy : l[i + 1]? = some y) (h : AscB ltI (l.take (i + 1))) : AscB ltI (l.take (i + 1 + 1)) ↔ x < y := by
  have hlt := (List.getElem?_eq_some_iff.1 hy).1
  have e1 : l.take (i + 1 + 1) = l.take (i + 1) ++ [y] := by rw [List.take_add_one, hy]; rfl
  have e2 : l.take (i + 1) = l.take i ++ [x] := by rw [List.take_add_one, hx]; rfl
  rw [e1]
  constructor
  · intro h2
    have := (List.pairwise_append.1 h2).2.2 x (by rw [e2]; simp) y (by simp)
    simpa [ltI] using this
  · intro hxy
    refine List.pairwise_append.2 ⟨h, List.pairwise_singleton _ _, fun a ha b hb => ?_⟩
    simp only [List.mem_singleton] at hb
    subst hb
    rw [e2] at ha h
    rcases List.mem_append.1 ha with e | e
    · have := (List.pairwise_append.1 h).2.2 a e x (by simp)
      simp only [ltI, decide_eq_true_eq] at this ⊢
      omega
    · simp only [List.mem_singleton] at e; subst e; simpa [ltI] using hxy

set_option maxHeartbeats 2000000 in
theorem ref_sorted14 (lv : Value) (l : List Int) (w : World) (hl : Rd w 1 lv l.length (i64s l)) :
    Calls Try.prog 58 #[lv] w fun e w' => e = .returned (.bool (decide (AscB ltI l))) ∧ Below w.heap.size w w' := by
  have HL := Lib.hid hl
  obtain ⟨pl, cl, hv⟩ := hl.shape
  subst hv
  have hmx : (l.length : Int) ≤ 9223372036854775807 := by have := hl.le; unfold maxLen at this; omega
  clear hl
  go_enter Try.func58, Try.ntmps58
  go_wp2_with fail
  go_loopw [3] (fun iv wr => ∃ (i : Nat), iv = .int .i64 ((i + 1 : Nat) : Int) ∧ (i = 0 ∨ i + 1 ≤ l.length) ∧ Hid (AscB ltI (l.take (i + 1))) ∧ Hid (Below w.heap.size w wr)) (fun iv _ => l.length - (intOf iv).toNat)
  case atStart => exact ⟨0, rfl, Or.inl rfl, (by show AscB _ _; cases l with
    | nil => exact List.Pairwise.nil
    | cons x l => exact List.pairwise_singleton _ _), Below.refl _ _⟩
  case round =>
    obtain ⟨i, rfl, hi, HA, HB⟩ := hrel
    obtain ⟨j, hj⟩ : ∃ j, i + 1 = j := ⟨_, rfl⟩
    have HJ := Lib.hid hj
    have hjm : (j : Int) ≤ 9223372036854775808 := by omega
    rw [hj] at HA ⊢
    clear hj
    by_cases hlt : j < l.length
    · have hlt' : (j : Int) < (l.length : Int) := by omega
      have hji : (j : Int) - 1 = (i : Int) := by have := HJ.out; omega
      have hj0 : (0 : Int) ≤ (i : Int) := by omega
      have hil : (i : Int) < (l.length : Int) := by have := HJ.out; omega
      obtain ⟨y, hy⟩ : ∃ y, l[j]? = some y := ⟨_, List.getElem?_eq_getElem hlt⟩
      obtain ⟨x, hx⟩ : ∃ x, l[i]? = some x := ⟨_, List.getElem?_eq_getElem (by have := HJ.out; omega)⟩
      obtain ⟨b, off, e, hcell⟩ := rdI_at HL.out hy
      subst e
      obtain ⟨b2, off2, e, hcell2⟩ := rdI_at HL.out hx
      simp only [Option.some.injEq, Addr.mk.injEq] at e
      obtain ⟨rfl, rfl, _⟩ := e
      have c0 := hcell wr HB.out
      have c1 := hcell2 wr HB.out
      have HAt : Hid (AscB ltI (l.take (j + 1)) ↔ x < y) := by
        have h := HA.out
        have hyy := hy
        rw [← HJ.out] at h hyy ⊢
        exact asc_take hx hyy h
      clear hx hy hcell hcell2 hi
      by_cases hxy : x < y
      · have hle : ¬ y ≤ x := by omega
        have HA2 := Lib.hid (HAt.out.2 hxy)
        clear hxy
        go_wp2_with fail
        go_quiet (fail)
        have HB2 : Hid (Below w.heap.size w (wr.drewN nq)) := HB.out.trans ⟨rfl, rfl, rfl, Nat.le_refl _, fun _ _ => rfl⟩
        clear c0 c1
        generalize wr.drewN nq = w2 at *
        go_wp2_with fail
        go_round
        case rel => exact ⟨j, by go_num, Or.inr (by omega), HA2.out, HB2.out⟩
        case measure => simp [intOf]; omega
      · have hle : y ≤ x := by omega
        have HD : Hid (decide (AscB ltI l) = false) := decide_eq_false fun h => hxy (HAt.out.1 (List.Pairwise.sublist (List.take_sublist _ _) h))
        clear hxy
        go_wp2_with fail
        go_quiet (fail)
        have HB2 : Hid (Below w.heap.size w (wr.drewN nq)) := HB.out.trans ⟨rfl, rfl, rfl, Nat.le_refl _, fun _ _ => rfl⟩
        clear c0 c1
        generalize wr.drewN nq = w2 at *
        go_wp2_with fail
        go_ret
        exact ⟨by rw [HD.out]; rfl, HB2.out⟩
    · have hlt' : ¬ (j : Int) < (l.length : Int) := by omega
      have HD : Hid (decide (AscB ltI l) = true) := decide_eq_true (by have h := HA.out; rwa [List.take_of_length_le (by omega)] at h)
      go_wp2_with fail
      go_ret
      exact ⟨by rw [HD.out]; rfl, HB.out⟩
end Go.Proofs.Ytpjfhakmffcolaa

end

section
/- Layer 15: whether entries are an index, entry by entry. No program in sight. -/
set_option linter.unusedVariables false
namespace Go.Proofs.Ytpjfhakmffcolaa
open Go Go.RowKit

instance isIdxDec (n : Int) (l : List Ent) : Decidable (IsIdx n l) := by unfold IsIdx AscB; infer_instance
/-- What an entry has to be. -/
def entOk (n : Int) (e : Ent) : Prop := AscB ltI e.2 ∧ (∀ x ∈ e.2, 0 ≤ x ∧ x < n) ∧ e.2 ≠ []
theorem isIdx_nil (n : Int) : IsIdx n [] := ⟨List.Pairwise.nil, fun e h => by cases h⟩
theorem IsIdx.take {n : Int} {l : List Ent} (h : IsIdx n l) (i : Nat) : IsIdx n (l.take i) := by
  refine ⟨?_, fun e he => h.2 e (List.mem_of_mem_take he)⟩
  rw [List.map_take]
  exact h.1.sublist (List.take_sublist _ _)
theorem isIdx_at {n : Int} {l : List Ent} (h : IsIdx n l) {i : Nat} {e : Ent} (he : l[i]? = some e) : entOk n e := h.2 e (List.mem_of_getElem? he)
theorem isIdx_pair {n : Int} {l : List Ent} (h : IsIdx n l) {j : Nat} {d e : Ent} (hd : l[j]? = some d) (he : l[j + 1]? = some e) : cmpLab d.1 e.1 = -1 := by
  have h1 := h.1
  unfold AscB at h1
  rw [List.pairwise_iff_getElem] at h1
  obtain ⟨l1, e1⟩ := List.getElem?_eq_some_iff.1 hd
  obtain ⟨l2, e2⟩ := List.getElem?_eq_some_iff.1 he
  have h2 := h1 j (j + 1) (by simpa using l1) (by simpa using l2) (by omega)
  simp only [List.getElem_map, e1, e2] at h2
  unfold ltE at h2
  simpa using h2
theorem isIdx_one {n : Int} {l : List Ent} {e : Ent} (he : l[0]? = some e) (h : entOk n e) : IsIdx n (l.take 1) := by
  rw [List.take_add_one, he]
  refine ⟨?_, fun x hx => ?_⟩
  · simp only [List.take_zero, Option.toList_some, List.nil_append, List.map_cons, List.map_nil]
    exact List.pairwise_singleton _ _
  · simp only [List.take_zero, Option.toList_some, List.nil_append, List.mem_singleton] at hx
    subst hx
    exact h
theorem isIdx_succ {n : Int} {l : List Ent} {j : Nat} {d e : Ent} (hd : l[j]? = some d) (he : l[j + 1]? = some e) (h0 : IsIdx n (l.take (j + 1))) (h : entOk n e) (hc : cmpLab d.1 e.1 = -1) : IsIdx n (l.take (j + 1 + 1)) := by
  have hlt : ltE d.1 e.1 = true := by unfold ltE; rw [hc]; rfl
  have e1 : l.take (j + 1 + 1) = l.take (j + 1) ++ [e] := by rw [List.take_add_one, he]; rfl
  have e2 : l.take (j + 1) = l.take j ++ [d] := by rw [List.take_add_one, hd]; rfl
  rw [e1]
  refine ⟨?_, fun x hx => ?_⟩
  · rw [List.map_append]
    refine List.pairwise_append.2 ⟨h0.1, List.pairwise_singleton _ _, fun a ha b hb => ?_⟩
    simp only [List.map_cons, List.map_nil, List.mem_singleton] at hb
    subst hb
    have h1 := h0.1
    rw [e2, List.map_append] at h1 ha
    rcases List.mem_append.1 ha with f | f
    · exact ltE_ok.tr _ _ _ ((List.pairwise_append.1 h1).2.2 a f d.1 (by simp)) hlt
    · simp only [List.map_cons, List.map_nil, List.mem_singleton] at f
      subst f
      exact hlt
  · rcases List.mem_append.1 hx with f | f
    · exact h0.2 x f
    · rw [List.mem_singleton.1 f]; exact h
/-- Its first and its last number tell. -/
theorem asc_ends {l : List Int} (ha : AscB ltI l) {m : Nat} {x y : Int} (hl : l.length = m + 1) (hx : l[0]? = some x) (hy : l[m]? = some y) : ∀ z ∈ l, x ≤ z ∧ z ≤ y := by
  intro z hz
  unfold AscB at ha
  rw [List.pairwise_iff_getElem] at ha
  obtain ⟨k, hk, rfl⟩ := List.getElem_of_mem hz
  obtain ⟨l1, e1⟩ := List.getElem?_eq_some_iff.1 hx
  obtain ⟨l2, e2⟩ := List.getElem?_eq_some_iff.1 hy
  constructor
  · by_cases h0 : k = 0
    · subst h0; omega
    · have := ha 0 k l1 hk (by omega)
      simp only [ltI, decide_eq_true_eq] at this
      omega
  · by_cases h0 : k = m
    · subst h0; omega
    · have := ha k m hk l2 (by omega)
      simp only [ltI, decide_eq_true_eq] at this
      omega
end Go.Proofs.Ytpjfhakmffcolaa

end

section
/- Layer 15: the reference's Is. -/
set_option linter.unusedVariables false
set_option maxRecDepth 20000
namespace Go.Proofs.Ytpjfhakmffcolaa
open Go Go.RowKit

set_option maxHeartbeats 8000000 in
theorem ref_is15 (lv : Value) (l : List Ent) (n : Int) (w : World) (h : RdE w lv l) (hn : l.length ≤ 100000) (hs : ∀ e ∈ l, e.2.length ≤ 1000000) :
    Calls Try.prog 30 #[lv, .int .i64 n] w fun e w' => e = .returned (.bool (decide (IsIdx n l))) ∧ Below w.heap.size w w' := by
  have H := Lib.hid h; have HS := Lib.hid hs
  obtain ⟨p, c, hv⟩ := h.shape
  subst hv
  have hmx : (l.length : Int) ≤ 100000 := by omega
  clear h hn hs
  go_enter Try.func30, Try.ntmps30
  go_wp2_with fail
  go_loopw [5] (fun iv wr => ∃ (i : Nat), i ≤ l.length ∧ iv = .int .i64 (i : Int) ∧ Hid (IsIdx n (l.take i)) ∧ Hid (Below w.heap.size w wr)) (fun iv _ => l.length - (intOf iv).toNat)
  case atStart => exact ⟨0, Nat.zero_le _, rfl, isIdx_nil n, Below.refl _ _⟩
  case round =>
    obtain ⟨i, hi, rfl, HI, HB⟩ := hrel
    have him : (i : Int) ≤ 100000 := by omega
    by_cases hlt : i < l.length
    · have hlt' : (i : Int) < (l.length : Int) := by omega
      obtain ⟨⟨⟨e1, e2⟩, es⟩, hx⟩ : ∃ s, l[i]? = some s := ⟨_, List.getElem?_eq_getElem hlt⟩
      obtain ⟨b, off, q, d, e, hal⟩ := H.out.always hx
      subst e
      have HX := Lib.hid hx
      have HAl := Lib.hid hal
      simp only at HAl
      have hem : (es.length : Int) ≤ 1000000 := by have := HS.out _ (List.mem_of_getElem? hx); simp only at this; omega
      have HNo : Hid (¬ entOk n ((e1, e2), es) → ¬ IsIdx n l) := fun h k => h (isIdx_at k hx)
      obtain ⟨⟨c0, c1, c2⟩, hr⟩ := HAl.out wr HB.out
      have HSo := Lib.hid (ref_sorted14 _ es wr hr)
      clear hx hal hr c0 c1
      by_cases hz : es.length = 0
      · have hzb : ((es.length : Int) == 0) = true := by rw [beq_iff_eq]; omega
        have HR := Lib.hid (HNo.out (fun k => k.2.2 (List.eq_nil_of_length_eq_zero hz)))
        clear hz
        go_wp2_with fail
        go_ret
        exact ⟨by rw [decide_eq_false HR.out]; rfl, HB.out⟩
      · have hzb : ((es.length : Int) == 0) = false := by rw [beq_eq_false_iff_ne]; omega
        obtain ⟨m, hm⟩ : ∃ m, es.length = m + 1 := ⟨es.length - 1, by omega⟩
        have HL := Lib.hid hm
        clear hz hm
        go_wp2_with fail
        refine HSo.out.mono ?_
        rintro e w1 ⟨rfl, hB⟩
        have HB1 : Hid (Below w.heap.size w w1) := HB.out.trans (hB.mono HB.out.size)
        clear hB HSo c2
        by_cases ha : AscB ltI es
        · have had : decide (AscB ltI es) = true := decide_eq_true ha
          have HA := Lib.hid ha
          clear ha
          have hm := HL.out
          obtain ⟨x, hx⟩ : ∃ x, es[0]? = some x := ⟨_, List.getElem?_eq_getElem (by omega)⟩
          obtain ⟨y, hy⟩ : ∃ y, es[m]? = some y := ⟨_, List.getElem?_eq_getElem (by omega)⟩
          have HE := Lib.hid (asc_ends HA.out hm hx hy)
          have HMx : Hid (x ∈ es ∧ y ∈ es) := ⟨List.mem_of_getElem? hx, List.mem_of_getElem? hy⟩
          obtain ⟨bs, os, e, hcx⟩ := rdI_at (HAl.out w1 HB1.out).2 hx
          subst e
          obtain ⟨bs', os', e, hcy⟩ := rdI_at (HAl.out w1 HB1.out).2 hy
          cases e
          have x0 := hcx w1 (Below.refl _ _)
          have y0 := hcy w1 (Below.refl _ _)
          have hL1 : (es.length : Int) - 1 = (m : Int) := by have := HL.out; omega
          have hm0 : (0 : Int) ≤ (m : Int) := by omega
          have hmL : (m : Int) < (es.length : Int) := by have := HL.out; omega
          have hLp : (0 : Int) < (es.length : Int) := by have := HL.out; omega
          rw [had]
          clear had
          rw [Nat.add_zero] at x0
          clear hcx hcy hx hy hm
          by_cases h0 : x < 0
          · have HR := Lib.hid (HNo.out (fun k => by have := (k.2.1 x HMx.out.1).1; omega))
            go_wp2_with fail
            go_ret
            exact ⟨by rw [decide_eq_false HR.out]; rfl, HB1.out⟩
          · by_cases h1 : n ≤ y
            · have HR := Lib.hid (HNo.out (fun k => by have := (k.2.1 y HMx.out.2).2; omega))
              go_wp2_with fail
              go_ret
              exact ⟨by rw [decide_eq_false HR.out]; rfl, HB1.out⟩
            · have HOk : Hid (entOk n ((e1, e2), es)) := ⟨HA.out, fun z hz => by have := HE.out z hz; omega, fun e => by have := HL.out; simp only at e; rw [e] at this; cases this⟩
              obtain ⟨⟨c0, c1, c2⟩, _⟩ := HAl.out w1 HB1.out
              cases i with
              | zero =>
                have HI2 := Lib.hid (isIdx_one HX.out HOk.out)
                go_wp2_with fail
                go_quiet (fail)
                have HB2 : Hid (Below w.heap.size w (w1.drewN nq)) := HB1.out.trans ((Mods.drewN (fun _ => False) w1 nq).below HB1.out.size (fun _ _ e => e))
                clear c0 c1 c2 x0 y0
                generalize w1.drewN nq = w2 at *
                go_wp2_with fail
                go_round
                case rel => exact ⟨0 + 1, by omega, by go_num, HI2.out, HB2.out⟩
                case measure => simp [intOf]; omega
              | succ j =>
                obtain ⟨⟨⟨d1, d2⟩, ds⟩, hy⟩ : ∃ s, l[j]? = some s := ⟨_, List.getElem?_eq_getElem (by omega)⟩
                obtain ⟨b3, off3, q3, d3, e, hal3⟩ := H.out.always hy
                simp only [Option.some.injEq, Addr.mk.injEq] at e
                obtain ⟨rfl, rfl, _⟩ := e
                have HAl3 := Lib.hid hal3
                simp only at HAl3
                have HC : Hid (cmpLab (d1, d2) (e1, e2) = -1 → IsIdx n (l.take (j + 1 + 1))) := fun h => isIdx_succ hy HX.out HI.out HOk.out h
                have HD : Hid (cmpLab (d1, d2) (e1, e2) ≠ -1 → ¬ IsIdx n l) := fun h k => h (isIdx_pair k hy HX.out)
                clear hy hal3 c2 HI HE HOk
                obtain ⟨i1, hi1⟩ : ∃ i1, j + 1 = i1 := ⟨_, rfl⟩
                have HJ := Lib.hid hi1
                rw [hi1] at c0 c1 him hlt hlt' hi HAl HC ⊢
                have hj1 : (i1 : Int) - 1 = (j : Int) := by omega
                have hj0 : (0 : Int) ≤ (j : Int) := by omega
                have hji : (j : Int) < (l.length : Int) := by omega
                have hjw : IntKind.i64.wrap (j : Int) = (j : Int) := IntWalk.i64_in _ (by omega)
                have HI0 : Hid (decide (0 < i1) = true) := decide_eq_true (by omega)
                clear hi1 HX
                have HG : Hid (∀ n os, Below w.heap.size w (Go.Sort.grow (w1.drewN n) os)) := fun n os => by
                  have hg : Grw w1 (Go.Sort.grow (w1.drewN n) os) := (Grw.refl w1).grow n os
                  exact HB1.out.trans (hg.below.mono HB1.out.size)
                have z0 : ∀ n os, (Go.Sort.grow (w1.drewN n) os).cell? ⟨b, off + i1 * 3, none⟩ = some (.string e1) := fun n os => (HAl.out _ (HG.out n os)).1.1
                have z1 : ∀ n os, (Go.Sort.grow (w1.drewN n) os).cell? ⟨b, off + i1 * 3 + 1, none⟩ = some (.string e2) := fun n os => (HAl.out _ (HG.out n os)).1.2.1
                have z2 : ∀ n os, (Go.Sort.grow (w1.drewN n) os).cell? ⟨b, off + j * 3, none⟩ = some (.string d1) := fun n os => (HAl3.out _ (HG.out n os)).1.1
                have z3 : ∀ n os, (Go.Sort.grow (w1.drewN n) os).cell? ⟨b, off + j * 3 + 1, none⟩ = some (.string d2) := fun n os => (HAl3.out _ (HG.out n os)).1.2.1
                have HXC : Hid (∀ n os, Calls Try.prog 54 #[.agg #[.string d1, .string d2], .agg #[.string e1, .string e2]] (Go.Sort.grow (w1.drewN n) os) fun e w' => e = .returned (.int .i64 (cmpLab (d1, d2) (e1, e2))) ∧ ∃ q os', w' = Go.Sort.grow ((Go.Sort.grow (w1.drewN n) os).drewN q) os') := fun n os => ref_compare15 (d1, d2) (e1, e2) _
                have hdom := cmpLab_ok.dom (d1, d2) (e1, e2)
                generalize cmpLab (d1, d2) (e1, e2) = cv2 at *
                clear c0 c1
                rcases hdom with rfl | rfl | rfl
                · have HI2 := Lib.hid (HC.out rfl)
                  clear HC HD
                  go_wp2_with fail
                  have hi0 : decide (0 < i1) = true := HI0.out
                  have mixed : Try.prog.follows .mixedOrders = true := by kernel_rfl
                  go_quiet_grown (first | (go_at_call 54; exact Calls.grown_of (HXC.out _ _)))
                  have HB2 := Lib.hid (HG.out nq osq)
                  clear z0 z1 z2 z3 x0 y0 HXC HG mixed
                  generalize Go.Sort.grow (w1.drewN nq) osq = w2 at *
                  go_wp2_with fail
                  go_round
                  case rel => exact ⟨i1 + 1, by omega, by go_num, HI2.out, HB2.out⟩
                  case measure => simp [intOf]; omega
                · have HR := Lib.hid (HD.out (by decide))
                  clear HC HD
                  go_wp2_with fail
                  have hi0 : decide (0 < i1) = true := HI0.out
                  have mixed : Try.prog.follows .mixedOrders = true := by kernel_rfl
                  go_quiet_grown (first | (go_at_call 54; exact Calls.grown_of (HXC.out _ _)))
                  have HB2 := Lib.hid (HG.out nq osq)
                  clear z0 z1 z2 z3 x0 y0 HXC HG mixed
                  generalize Go.Sort.grow (w1.drewN nq) osq = w2 at *
                  go_wp2_with fail
                  go_ret
                  exact ⟨by rw [decide_eq_false HR.out]; rfl, HB2.out⟩
                · have HR := Lib.hid (HD.out (by decide))
                  clear HC HD
                  go_wp2_with fail
                  have hi0 : decide (0 < i1) = true := HI0.out
                  have mixed : Try.prog.follows .mixedOrders = true := by kernel_rfl
                  go_quiet_grown (first | (go_at_call 54; exact Calls.grown_of (HXC.out _ _)))
                  have HB2 := Lib.hid (HG.out nq osq)
                  clear z0 z1 z2 z3 x0 y0 HXC HG mixed
                  generalize Go.Sort.grow (w1.drewN nq) osq = w2 at *
                  go_wp2_with fail
                  go_ret
                  exact ⟨by rw [decide_eq_false HR.out]; rfl, HB2.out⟩
        · have had : decide (AscB ltI es) = false := decide_eq_false ha
          have HR := Lib.hid (HNo.out (fun k => ha k.1))
          rw [had]
          clear ha had
          go_wp2_with fail
          go_ret
          exact ⟨by rw [decide_eq_false HR.out]; rfl, HB1.out⟩
    · have hlt' : ¬ (i : Int) < (l.length : Int) := by omega
      have HE : Hid (l.take i = l) := List.take_of_length_le (by omega)
      go_wp2_with fail
      go_ret
      exact ⟨by have := HI.out; rw [HE.out] at this; rw [decide_eq_true this]; rfl, HB.out⟩
end Go.Proofs.Ytpjfhakmffcolaa

end

section
/- Layer 4: the reference's reader: Uint. -/
set_option linter.unusedVariables false
namespace Go.Proofs.Ytpjfhakmffcolaa
open Go Go.RowKit


set_option maxHeartbeats 1000000 in
theorem rr_uint (q : Nat) (v : Value) (B : List Nat) (a most : Nat) (w : World) (h : RRd w q v B a 0) (hB : ∀ c ∈ B, c < 256) (ha : a ≤ B.length) (hm : most < 18446744073709551616) :
    Calls Try.prog 56 #[.pointer (some ⟨q, 0, none⟩), .int .u64 (most : Int)] w fun en w' => Mods (fun k => k = q) w w' ∧ Got (outUint B a most) (fun c => .int .u64 (c : Int)) (.int .u64 0) (fun b e => RRd w' q v B b e) a en := by
  obtain ⟨c0, c1, c2, f1, f2⟩ := h.cells
  have H := Lib.hid h
  have HB := Lib.hid hB
  obtain ⟨p, c, hv⟩ := h.rd.shape
  subst hv
  have hcs := outUint_cases hB ha most
  have HG := Lib.hid (fun n => calls_flip (ref_get (.slice p B.length c) B (a : Int) (w.drewN n) (h.drewN n).rd hB))
  clear h hB
  go_enter Try.func56, Try.ntmps56
  go_wp2_with fail
  go_quiet ((go_at_call 79; exact Calls.quiet_of_same (HG.out _)))
  have H1 := Lib.hid (H.out.drewN nq)
  obtain ⟨c0, c1, c2, f1, f2⟩ := H1.out.cells
  have HM1 : Hid (Mods (fun k => k = q) w (w.drewN nq)) := Mods.drewN _ _ _
  generalize w.drewN nq = w1 at *
  clear HG H
  rcases hcs with ⟨e, he, hr, ho⟩ | ⟨x, to, hr, hto, htl, hx, ho⟩
  · rw [hr]
    have HO := Lib.hid ho
    have heb : ((e : Int) == 0) = false := by rw [beq_eq_false_iff_ne]; omega
    clear hr ho
    go_wp2_with fail
    refine (rr_fail q _ B a 0 (e : Int) _ H1.out).mono ?_
    rintro en w2 ⟨rfl, hR, hm⟩
    rw [if_pos rfl] at hR
    have HM := Lib.hid (HM1.out.trans hm (fun _ _ e => e))
    have HR := Lib.hid hR
    clear hR hm
    go_wp2_with fail
    go_ret
    exact ⟨HM.out, by rw [HO.out]; exact ⟨rfl, HR.out⟩⟩
  · rw [hr]
    have HO := Lib.hid ho
    clear hr ho
    by_cases hlt : most < x
    · have hlt' : (most : Int) < (x : Int) := by omega
      rw [if_pos hlt] at HO
      go_wp2_with fail
      refine (rr_fail q _ B a 0 7 _ H1.out).mono ?_
      rintro en w2 ⟨rfl, hR, hm⟩
      rw [if_pos rfl] at hR
      have HM := Lib.hid (HM1.out.trans hm (fun _ _ e => e))
      have HR := Lib.hid hR
      clear hR hm
      go_wp2_with fail
      go_ret
      exact ⟨HM.out, by rw [HO.out]; exact ⟨rfl, HR.out⟩⟩
    · have hlt' : ¬ (most : Int) < (x : Int) := by omega
      rw [if_neg hlt] at HO
      go_wp2_with fail
      go_ret
      exact ⟨HM1.out.trans (mods_set _ q 1 _) (fun _ _ e => e), by rw [HO.out]; exact ⟨rfl, H1.out.setAt to⟩⟩
end Go.Proofs.Ytpjfhakmffcolaa

end

section
/- Layer 4: the reference's reader: Uint after an error. -/
set_option linter.unusedVariables false
namespace Go.Proofs.Ytpjfhakmffcolaa
open Go Go.RowKit


theorem rr_uint_err (q : Nat) (v : Value) (B : List Nat) (a : Nat) (e : Int) (x : Value) (w : World) (h : RRd w q v B a e) (he : e ≠ 0) :
    Calls Try.prog 56 #[.pointer (some ⟨q, 0, none⟩), x] w fun en w' => en = .returned (.int .u64 0) ∧ w = w' := by
  obtain ⟨c0, c1, c2, f1, f2⟩ := h.cells
  clear h
  have heb : (e == 0) = false := by rw [beq_eq_false_iff_ne]; exact he
  go_enter Try.func56, Try.ntmps56
  go_wp2_with fail
  go_ret
  exact ⟨rfl, rfl⟩
end Go.Proofs.Ytpjfhakmffcolaa

end

section
/- Layer 13: the reference's Count and Symbol. -/
set_option linter.unusedVariables false
set_option maxRecDepth 20000
namespace Go.Proofs.Ytpjfhakmffcolaa
open Go Go.RowKit

theorem strs_ne {t : List ByteArray} (h : strs t ≠ []) : t ≠ [] := fun e => h (by subst e; rfl)
/-- What a read leaves: its value and the new offset, or zero and an error at some offset. -/
def GotE {α : Type} (o : Out α) (val : α → Value) (z : Value) (inv : Nat → Int → Prop) (en : Ending) : Prop := match o with
  | .ok x b => en = .returned (val x) ∧ inv b 0
  | .bad e => en = .returned z ∧ ∃ a, inv a (e : Int)

set_option maxHeartbeats 4000000 in
theorem rr_count (q : Nat) (v : Value) (B : List Nat) (a : Nat) (w : World) (h : RRd w q v B a 0) (hB : ∀ c ∈ B, c < 256) (ha : a ≤ B.length) (hz : B.length ≤ 140737488355000) :
    Calls Try.prog 52 #[.pointer (some ⟨q, 0, none⟩)] w fun en w' => Mods (fun k => k = q) w w' ∧ GotE (outCount B a) (fun n => .int .i64 (n : Int)) (.int .i64 0) (fun b e => RRd w' q v B b e) en := by
  have HU := Lib.hid (rr_uint q v B a 18446744073709551615 w h hB ha (by decide))
  obtain ⟨c0, c1, c2, f1, f2⟩ := h.cells
  obtain ⟨p, c, hv⟩ := h.rd.shape
  subst hv
  have hcs := outCount_cases hB ha
  have hz' : (B.length : Int) ≤ 140737488355000 := by omega
  have ha' : (a : Int) ≤ (B.length : Int) := by omega
  clear h
  go_enter Try.func52, Try.ntmps52
  go_wp2_with fail
  refine HU.out.mono ?_
  rintro en w1 ⟨hm, hg⟩
  have HM1 := Lib.hid hm
  clear HU hm c0 c1 c2 f1 f2
  rcases hcs with ⟨e, he, ho, hc⟩ | ⟨n, b, ho, hn, hab, hb, hc⟩
  · rw [ho] at hg
    obtain ⟨rfl, hR⟩ := hg
    have HR := Lib.hid hR
    have HC := Lib.hid hc
    obtain ⟨c0, c1, c2, f1, f2⟩ := hR.cells
    have heb : ((e : Int) == 0) = false := by rw [beq_eq_false_iff_ne]; omega
    have hen : ¬ (e : Int) = 0 := by omega
    clear hR hc ho
    go_wp2_with fail
    go_quiet (fail)
    have HM2 : Hid (Mods (fun k => k = q) w (w1.drewN nq)) := HM1.out.trans (Mods.drewN _ _ _) (fun _ _ e => e)
    have HR2 := Lib.hid (HR.out.drewN nq)
    obtain ⟨c0, c1, c2, f1, f2⟩ := HR2.out.cells
    clear HM1 HR
    generalize w1.drewN nq = w2 at *
    go_wp2_with fail
    go_ret
    exact ⟨HM2.out, by rw [HC.out]; exact ⟨rfl, _, HR2.out⟩⟩
  · rw [ho] at hg
    obtain ⟨rfl, hR⟩ := hg
    have HR := Lib.hid hR
    obtain ⟨c0, c1, c2, f1, f2⟩ := hR.cells
    have hb' : (b : Int) ≤ (B.length : Int) := by omega
    have hwr : IntKind.u64.wrap ((B.length : Int) - (b : Int)) = ((B.length - b : Nat) : Int) := by rw [IntKind.wrap_u64]; omega
    have hwi : IntKind.i64.wrap ((B.length : Int) - (b : Int)) = ((B.length - b : Nat) : Int) := by rw [IntKind.wrap_i64]; omega
    have hwi2 : wrap64 ((B.length : Int) - (b : Int)) = ((B.length - b : Nat) : Int) := by simp only [wrap64]; omega
    have hwu : IntKind.u64.wrap ((B.length - b : Nat) : Int) = ((B.length - b : Nat) : Int) := by rw [IntKind.wrap_u64]; omega
    obtain ⟨D, hD⟩ : ∃ D, B.length - b = D := ⟨_, rfl⟩
    rw [hD] at hwr hwi hwi2 hwu hc
    have HD : Hid (B.length - b = D) := hD
    clear hR ho hD
    by_cases hlt : D < n
    · have hlt' : (D : Int) < (n : Int) := by omega
      have hdd : decide ((D : Int) < (n : Int)) = true := by simpa using hlt'
      rw [if_pos hlt] at hc
      have HC := Lib.hid hc
      clear hc hlt
      go_wp2_with fail
      go_quiet (fail)
      have HM2 : Hid (Mods (fun k => k = q) w (w1.drewN nq)) := HM1.out.trans (Mods.drewN _ _ _) (fun _ _ e => e)
      have HR2 := Lib.hid (HR.out.drewN nq)
      clear HM1 HR c0 c1 c2 f1 f2
      obtain ⟨c0, c1, c2, f1, f2⟩ := HR2.out.cells
      generalize w1.drewN nq = w2 at *
      have HR3 := Lib.hid (HR2.out.setAt a)
      have HM3 : Hid (Mods (fun k => k = q) w (w2.setCell ⟨q, 1, none⟩ (.int .i64 (a : Int)))) := HM2.out.trans (mods_set _ _ _ _) (fun _ _ e => e)
      go_wp2_with fail
      refine (rr_fail q _ B a 0 3 _ HR3.out).mono ?_
      rintro en w4 ⟨rfl, hR, hm⟩
      rw [if_pos rfl] at hR
      have HM4 := Lib.hid (HM3.out.trans hm (fun _ _ e => e))
      have HR4 := Lib.hid hR
      obtain ⟨d0, d1, d2, g1, g2⟩ := hR.cells
      clear hR hm c0 c1 c2 f1 f2
      go_wp2_with fail
      go_ret
      exact ⟨HM4.out, by rw [HC.out]; exact ⟨rfl, _, HR4.out⟩⟩
    · have hlt' : ¬ (D : Int) < (n : Int) := by omega
      have hdd : decide ((D : Int) < (n : Int)) = false := by simpa using hlt'
      have hnz : (n : Int) ≤ 140737488355000 := by have := HD.out; omega
      have hwn : IntKind.i64.wrap (n : Int) = (n : Int) := by rw [IntKind.wrap_i64]; omega
      rw [if_neg hlt] at hc
      have HC := Lib.hid hc
      clear hc hlt
      go_wp2_with fail
      go_quiet (fail)
      have HM2 : Hid (Mods (fun k => k = q) w (w1.drewN nq)) := HM1.out.trans (Mods.drewN _ _ _) (fun _ _ e => e)
      have HR2 := Lib.hid (HR.out.drewN nq)
      clear HM1 HR c0 c1 c2 f1 f2
      obtain ⟨c0, c1, c2, f1, f2⟩ := HR2.out.cells
      generalize w1.drewN nq = w2 at *
      go_wp2_with fail
      go_ret
      exact ⟨HM2.out, by rw [HC.out]; exact ⟨rfl, HR2.out⟩⟩

/-- After an error nothing is read. -/
theorem rr_symbol_err (q : Nat) (v : Value) (B : List Nat) (a : Nat) (e : Int) (tv : Value) (t : List ByteArray) (w : World) (h : RRd w q v B a e) (he : e ≠ 0) (ht : Rd w 1 tv t.length (strs t)) :
    Calls Try.prog 53 #[.pointer (some ⟨q, 0, none⟩), tv] w fun en w' => en = .returned (.string ⟨#[]⟩) ∧ ∃ n, w' = w.drewN n := by
  have HU := Lib.hid (rr_uint_err q v B a e (.int .u64 18446744073709551615) w h he)
  obtain ⟨c0, c1, c2, f1, f2⟩ := h.cells
  obtain ⟨p, c, hv⟩ := h.rd.shape
  subst hv
  obtain ⟨pt, ct, hv⟩ := ht.shape
  subst hv
  have heb : (e == 0) = false := by rw [beq_eq_false_iff_ne]; exact he
  clear h ht
  go_enter Try.func53, Try.ntmps53
  go_wp2_with fail
  refine HU.out.mono ?_
  rintro en w1 ⟨rfl, rfl⟩
  clear HU
  go_wp2_with fail
  go_ret
  exact ⟨rfl, 0, rfl⟩

set_option maxHeartbeats 4000000 in
theorem rr_symbol (q : Nat) (v : Value) (B : List Nat) (a : Nat) (tv : Value) (t : List ByteArray) (w : World) (h : RRd w q v B a 0) (hB : ∀ c ∈ B, c < 256) (ha : a ≤ B.length) (ht : Rd w 1 tv t.length (strs t)) (hn : t.length ≤ 100000000) (htq : t ≠ [] → ∀ k, tv.ownBlock = some k → k ≠ q) :
    Calls Try.prog 53 #[.pointer (some ⟨q, 0, none⟩), tv] w fun en w' => Mods (fun k => k = q) w w' ∧ GotE (pSym t B a) (fun s => .string s) (.string ⟨#[]⟩) (fun b e => RRd w' q v B b e) en := by
  have HU := Lib.hid (rr_uint q v B a 18446744073709551615 w h hB ha (by decide))
  obtain ⟨c0, c1, c2, f1, f2⟩ := h.cells
  obtain ⟨p, c, hv⟩ := h.rd.shape
  subst hv
  have HT := Lib.hid ht; have HTq := Lib.hid htq
  obtain ⟨pt, ct, hv⟩ := ht.shape
  subst hv
  have hcs := pNum_cases (fun n => t[n]?) 14 hB ha
  have htm : (t.length : Int) ≤ 100000000 := by omega
  have hwt : IntKind.u64.wrap (t.length : Int) = (t.length : Int) := by rw [IntKind.wrap_u64]; omega
  clear h ht htq hn
  go_enter Try.func53, Try.ntmps53
  go_wp2_with fail
  refine HU.out.mono ?_
  rintro en w1 ⟨hm, hg⟩
  have HM1 := Lib.hid hm
  have HT1 := Lib.hid (HT.out.mods' hm (fun e => HTq.out (strs_ne e)))
  clear HU hm c0 c1 c2 f1 f2
  rcases hcs with ⟨e, he, ho, hc⟩ | ⟨n, b, ho, hnu, hab, hb, hc⟩
  · rw [ho] at hg
    obtain ⟨rfl, hR⟩ := hg
    have HR := Lib.hid hR
    have HC : Hid (pSym t B a = .bad e) := hc
    obtain ⟨c0, c1, c2, f1, f2⟩ := hR.cells
    have heb : ((e : Int) == 0) = false := by rw [beq_eq_false_iff_ne]; omega
    clear hR hc ho
    go_wp2_with fail
    go_ret
    exact ⟨HM1.out, by rw [HC.out]; exact ⟨rfl, _, HR.out⟩⟩
  · rw [ho] at hg
    obtain ⟨rfl, hR⟩ := hg
    have HR := Lib.hid hR
    obtain ⟨c0, c1, c2, f1, f2⟩ := hR.cells
    clear hR ho
    by_cases hlt : n < t.length
    · have hlt' : (n : Int) < (t.length : Int) := by omega
      obtain ⟨s, hs⟩ : ∃ s, t[n]? = some s := ⟨_, List.getElem?_eq_getElem hlt⟩
      have HC : Hid (pSym t B a = .ok s b) := by show pNum _ _ _ _ = _; rw [hc]; simp only [hs]
      obtain ⟨g, off, ct', e, _, _, hcell⟩ := HT1.out.at (fun e => by have := congrArg List.length e; rw [strs_length] at this; rw [this] at hlt; simp at hlt)
      simp only [Value.slice.injEq] at e
      obtain ⟨rfl, _, rfl⟩ := e
      have d0 : w1.cell? ⟨g, off + n, none⟩ = some (.string s) := hcell n _ (by rw [strs, List.getElem?_map, hs]; rfl)
      clear hc hs hcell hlt
      go_wp2_with fail
      go_ret
      exact ⟨HM1.out, by rw [HC.out]; exact ⟨rfl, HR.out⟩⟩
    · have hlt' : ¬ (n : Int) < (t.length : Int) := by omega
      have hle' : (t.length : Int) ≤ (n : Int) := by omega
      have HC : Hid (pSym t B a = .bad 14) := by show pNum _ _ _ _ = _; rw [hc, List.getElem?_eq_none (by omega)]
      clear hc hlt
      go_wp2_with fail
      refine (rr_fail q _ B b 0 14 _ HR.out).mono ?_
      rintro en w4 ⟨rfl, hR, hm⟩
      rw [if_pos rfl] at hR
      have HM4 := Lib.hid (HM1.out.trans hm (fun _ _ e => e))
      have HR4 := Lib.hid hR
      obtain ⟨d0, d1, d2, g1, g2⟩ := hR.cells
      clear hR hm c0 c1 c2 f1 f2
      go_wp2_with fail
      go_ret
      exact ⟨HM4.out, by rw [HC.out]; exact ⟨rfl, _, HR4.out⟩⟩
end Go.Proofs.Ytpjfhakmffcolaa

end

section
/- The reference counts: whatever stands there, also after an error. -/
set_option linter.unusedVariables false
set_option maxRecDepth 20000
namespace Go.Proofs.Ytpjfhakmffcolaa
open Go Go.RowKit

/-- After an error nothing is counted. -/
theorem rr_count_err (q : Nat) (v : Value) (B : List Nat) (a : Nat) (e : Int) (w : World) (h : RRd w q v B a e) (he : e ≠ 0) :
    Calls Try.prog 52 #[.pointer (some ⟨q, 0, none⟩)] w fun en w' => en = .returned (.int .i64 0) ∧ ∃ n, w' = w.drewN n := by
  have HU := Lib.hid (rr_uint_err q v B a e (.int .u64 18446744073709551615) w h he)
  obtain ⟨c0, c1, c2, f1, f2⟩ := h.cells
  obtain ⟨p, c, hv⟩ := h.rd.shape
  subst hv
  have heb : (e == 0) = false := by rw [beq_eq_false_iff_ne]; exact he
  clear h
  go_enter Try.func52, Try.ntmps52
  go_wp2_with fail
  refine HU.out.mono ?_
  rintro en w1 ⟨rfl, rfl⟩
  clear HU
  go_wp2_with fail
  go_quiet (fail)
  have c2' : (w.drewN nq).cell? ⟨q, 2, none⟩ = some (.int .i64 e) := c2
  have HW : Hid (∃ n, w.drewN nq = w.drewN n) := ⟨_, rfl⟩
  clear c0 c1 c2 f1 f2
  generalize w.drewN nq = w2 at *
  go_wp2_with fail
  go_ret
  exact ⟨rfl, HW.out⟩

/-- Count, whatever stands there: it goes on with a number, or fails with none. -/
theorem rr_count_any (q : Nat) (v : Value) (B : List Nat) (a : Nat) (e : Int) (w : World) (h : RRd w q v B a e) (hB : ∀ c ∈ B, c < 256) (ha : e = 0 → a ≤ B.length) (hz : B.length ≤ 100000000) :
    Calls Try.prog 52 #[.pointer (some ⟨q, 0, none⟩)] w fun en w' => Mods (fun k => k = q) w w' ∧ ∃ (n b : Nat) (e' : Int), en = .returned (.int .i64 (n : Int)) ∧ n ≤ 100000000 ∧ RRd w' q v B b e' ∧
      ((e = 0 ∧ e' = 0 ∧ b ≤ B.length ∧ outCount B a = .ok n b) ∨ (e = 0 ∧ n = 0 ∧ ∃ k : Nat, k ≠ 0 ∧ e' = (k : Int) ∧ outCount B a = .bad k) ∨ (e ≠ 0 ∧ n = 0 ∧ e' = e)) := by
  by_cases he : e = 0
  · subst he
    have ha := ha rfl
    refine (rr_count q v B a w h hB ha (by omega)).mono ?_
    rintro en w' ⟨hm, hg⟩
    refine ⟨hm, ?_⟩
    rcases outCount_cases hB ha with ⟨k, hk, _, hc⟩ | ⟨n, b, _, hnu, hab, hb, hc⟩
    · rw [hc] at hg
      obtain ⟨rfl, a', hR⟩ := hg
      exact ⟨0, a', k, rfl, by omega, hR, Or.inr (Or.inl ⟨rfl, rfl, k, hk, rfl, hc⟩)⟩
    · by_cases hlt : B.length - b < n
      · rw [if_pos hlt] at hc
        rw [hc] at hg
        obtain ⟨rfl, a', hR⟩ := hg
        exact ⟨0, a', (3 : Nat), rfl, by omega, hR, Or.inr (Or.inl ⟨rfl, rfl, 3, by decide, rfl, hc⟩)⟩
      · rw [if_neg hlt] at hc
        rw [hc] at hg
        obtain ⟨rfl, hR⟩ := hg
        exact ⟨n, b, 0, rfl, by omega, hR, Or.inl ⟨rfl, rfl, hb, hc⟩⟩
  · refine (rr_count_err q v B a e w h he).mono ?_
    rintro en w' ⟨rfl, n, rfl⟩
    exact ⟨Mods.drewN _ _ _, 0, a, e, rfl, by omega, h.drewN n, Or.inr (Or.inr ⟨he, rfl, rfl⟩)⟩
end Go.Proofs.Ytpjfhakmffcolaa

end

section
/- The reference's reader, whatever stands there: a number, a count, a symbol, an error noted; each also after an error. -/
set_option linter.unusedVariables false
set_option maxRecDepth 20000
namespace Go.Proofs.Ytpjfhakmffcolaa
open Go Go.RowKit

/-- The reader at block q, and a table beside it. -/
structure QRd (w : World) (q : Nat) (v : Value) (B : List Nat) (tv : Value) (t : List ByteArray) (a e : Nat) : Prop where
  rr : RRd w q v B a (e : Int)
  tb : Rd w 1 tv t.length (strs t)
  at_ : e = 0 → a ≤ B.length
  tq : t ≠ [] → ∀ k, tv.ownBlock = some k → k ≠ q
theorem QRd.next {w w' : World} {q : Nat} {v : Value} {B : List Nat} {tv : Value} {t : List ByteArray} {a e a' e' : Nat} (h : QRd w q v B tv t a e) (hm : Mods (fun k => k = q) w w') (hr : RRd w' q v B a' (e' : Int)) (ha : e' = 0 → a' ≤ B.length) : QRd w' q v B tv t a' e' :=
  ⟨hr, h.tb.mods' hm (fun e => h.tq (strs_ne e)), ha, h.tq⟩
theorem QRd.mods {S : Nat → Prop} {w w' : World} {q : Nat} {v : Value} {B : List Nat} {tv : Value} {t : List ByteArray} {a e : Nat} (h : QRd w q v B tv t a e) (hm : Mods S w w') (hq : ¬ S q) (hv : B ≠ [] → ∀ k, v.ownBlock = some k → ¬ S k) (ht : t ≠ [] → ∀ k, tv.ownBlock = some k → ¬ S k) : QRd w' q v B tv t a e :=
  ⟨h.rr.mods' hm hq hv, h.tb.mods' hm (fun e => ht (strs_ne e)), h.at_, h.tq⟩
theorem QRd.below {w w' : World} {q : Nat} {v : Value} {B : List Nat} {tv : Value} {t : List ByteArray} {a e : Nat} (h : QRd w q v B tv t a e) (hb : Below w.heap.size w w') : QRd w' q v B tv t a e :=
  h.mods (Mods.of_below hb (fun _ => False)) (fun h => h) (fun _ _ _ h => h) (fun _ _ _ h => h)

section
variable (q : Nat) (v : Value) (B : List Nat) (tv : Value) (t : List ByteArray) (a e : Nat) (w : World) (h : QRd w q v B tv t a e) (hB : ∀ c ∈ B, c < 256)
include h

theorem rq_fail (x : Nat) (hx : x ≠ 0) :
    Calls Try.prog 55 #[.pointer (some ⟨q, 0, none⟩), .int .i64 (x : Int)] w fun en w' => en = .returned (.tuple #[]) ∧ QRd w' q v B tv t a (if e = 0 then x else e) ∧ Mods (fun k => k = q) w w' := by
  refine (rr_fail q v B a (e : Int) (x : Int) w h.rr).mono ?_
  rintro en w' ⟨rfl, hR, hm⟩
  by_cases he : e = 0
  · rw [if_pos (by omega)] at hR
    rw [if_pos he]
    exact ⟨rfl, h.next hm hR (fun k => absurd k hx), hm⟩
  · rw [if_neg (by omega)] at hR
    rw [if_neg he]
    exact ⟨rfl, h.next hm hR (fun k => absurd k he), hm⟩

include hB
theorem rq_uint :
    Calls Try.prog 56 #[.pointer (some ⟨q, 0, none⟩), .int .u64 18446744073709551615] w fun en w' => Mods (fun k => k = q) w w' ∧ ∃ n a' e' : Nat, en = .returned (.int .u64 (n : Int)) ∧ n < 18446744073709551616 ∧ QRd w' q v B tv t a' e' ∧ outE (outUint B a 18446744073709551615) e = fin n a' e' ∧ (e' ≠ 0 → n = 0) := by
  by_cases he : e = 0
  · subst he
    have ha := h.at_ rfl
    refine (rr_uint q v B a 18446744073709551615 w h.rr hB ha (by decide)).mono ?_
    rintro en w' ⟨hm, hg⟩
    refine ⟨hm, ?_⟩
    rcases outCount_cases hB ha with ⟨k, hk, ho, _⟩ | ⟨n, b, ho, hn, _, hb, _⟩
    · rw [ho] at hg ⊢
      obtain ⟨rfl, hR⟩ := hg
      exact ⟨0, a, k, rfl, by decide, h.next hm hR (fun k' => absurd k' hk), by rw [outE_zero, fin, if_neg hk], fun _ => rfl⟩
    · rw [ho] at hg ⊢
      obtain ⟨rfl, hR⟩ := hg
      exact ⟨n, b, 0, rfl, hn, h.next (e' := 0) hm hR (fun _ => hb), by rw [outE_zero, fin, if_pos rfl], fun h => absurd rfl h⟩
  · refine (rr_uint_err q v B a (e : Int) _ w h.rr (by omega)).mono ?_
    rintro en w' ⟨rfl, rfl⟩
    exact ⟨Mods.refl _ _, 0, a, e, rfl, by decide, h, by rw [outE_ne _ he, fin, if_neg he], fun _ => rfl⟩

theorem rq_count (hz : B.length ≤ 100000000) :
    Calls Try.prog 52 #[.pointer (some ⟨q, 0, none⟩)] w fun en w' => Mods (fun k => k = q) w w' ∧ ∃ n a' e' : Nat, en = .returned (.int .i64 (n : Int)) ∧ n ≤ 100000000 ∧ QRd w' q v B tv t a' e' ∧ outE (outCount B a) e = fin n a' e' ∧ (e' ≠ 0 → n = 0) := by
  refine (rr_count_any q v B a (e : Int) w h.rr hB (fun k => h.at_ (by omega)) hz).mono ?_
  rintro en w' ⟨hm, n, b, e', rfl, hn, hR, hc⟩
  refine ⟨hm, ?_⟩
  rcases hc with ⟨he, rfl, hb, ho⟩ | ⟨he, rfl, k, hk, rfl, ho⟩ | ⟨he, rfl, rfl⟩
  · have he' : e = 0 := by omega
    subst he'
    exact ⟨n, b, 0, rfl, hn, h.next (e' := 0) hm hR (fun _ => hb), by rw [ho, outE_zero, fin, if_pos rfl], fun h => absurd rfl h⟩
  · have he' : e = 0 := by omega
    subst he'
    exact ⟨0, b, k, rfl, by decide, h.next hm hR (fun k' => absurd k' hk), by rw [ho, outE_zero, fin, if_neg hk], fun _ => rfl⟩
  · have he' : e ≠ 0 := by omega
    exact ⟨0, b, e, rfl, by decide, h.next hm hR (fun k' => absurd k' he'), by rw [outE_ne _ he', fin, if_neg he'], fun _ => rfl⟩

theorem rq_symbol (hn : t.length ≤ 100000000) :
    Calls Try.prog 53 #[.pointer (some ⟨q, 0, none⟩), tv] w fun en w' => Mods (fun k => k = q) w w' ∧ ∃ (s : ByteArray) (a' e' : Nat), en = .returned (.string s) ∧ QRd w' q v B tv t a' e' ∧ outE (pSym t B a) e = fin s a' e' := by
  by_cases he : e = 0
  · subst he
    have ha := h.at_ rfl
    refine (rr_symbol q v B a tv t w h.rr hB ha h.tb hn h.tq).mono ?_
    rintro en w' ⟨hm, hg⟩
    refine ⟨hm, ?_⟩
    rcases pNum_cases (fun n => t[n]?) 14 hB ha with ⟨k, hk, _, hc⟩ | ⟨n, b, _, _, _, hb, hc⟩
    · have ho : pSym t B a = .bad k := hc
      rw [ho] at hg ⊢
      obtain ⟨rfl, a', hR⟩ := hg
      exact ⟨_, a', k, rfl, h.next hm hR (fun k' => absurd k' hk), by rw [outE_zero, fin, if_neg hk]⟩
    · have ho : pSym t B a = _ := hc
      cases hs : t[n]? with
      | some s =>
        rw [hs] at ho
        simp only at ho
        rw [ho] at hg ⊢
        obtain ⟨rfl, hR⟩ := hg
        exact ⟨s, b, 0, rfl, h.next (e' := 0) hm hR (fun _ => hb), by rw [outE_zero, fin, if_pos rfl]⟩
      | none =>
        rw [hs] at ho
        simp only at ho
        rw [ho] at hg ⊢
        obtain ⟨rfl, a', hR⟩ := hg
        exact ⟨_, a', 14, rfl, h.next (e' := 14) hm hR (fun k' => absurd k' (by decide)), by rw [outE_zero, fin, if_neg (by decide)]⟩
  · refine (rr_symbol_err q v B a (e : Int) tv t w h.rr (by omega) h.tb).mono ?_
    rintro en w' ⟨rfl, n, rfl⟩
    exact ⟨Mods.drewN _ _ _, _, a, e, rfl, h.next (Mods.drewN _ _ _) (h.rr.drewN n) (fun k => absurd k he), by rw [outE_ne _ he, fin, if_neg he]⟩
end
end Go.Proofs.Ytpjfhakmffcolaa

end
