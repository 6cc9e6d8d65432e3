/- QrS, Ref04Y, Ref04W, AppF, Ref16E, in one text. -/
import Derived.Test.YtlgphgipfjlbfaaDoorMrg5
import Derived.Test.YtlgphgipfjlbfaaDoorMrg2
import Derived.Test.YtlgphgipfjlbfaaDoorMrg4
import Derived.Test.YtlgphgipfjlbfaaDoorMrg1
import Derived.Test.YtlgphgipfjlbfaaDoorMrg3
import Derived.Lib.SlBytesConst

section
/- The reference's Section, whatever stands there; what Parse makes of what it reads, step by step. -/
set_option linter.unusedVariables false
set_option maxRecDepth 20000
namespace Go.Proofs.YtlgphgipfjlbfaaDoor
open Go Go.RowKit

theorem outSection_to {B : List Nat} (hB : ∀ c ∈ B, c < 256) {a id b : Nat} {d : List Nat} (h : outSection B a id = .ok d b) : b ≤ B.length := (sec_inv hB h).2.2.1
theorem rq_section (q : Nat) (v : Value) (B : List Nat) (a e id : Nat) (w : World) (h : RRd w q v B a (e : Int)) (hB : ∀ c ∈ B, c < 256) (hz : B.length ≤ 140737488352000) (hid : id < 256) :
    Calls Tryd.prog 29 #[.pointer (some ⟨q, 0, none⟩), .int .u8 (id : Int)] w fun en w' => Mods (fun k => k = q) w w' ∧ ∃ (d : List Nat) (r : Value) (a' e' : Nat), en = .returned r ∧ RRd w' q v B a' (e' : Int) ∧ outE (outSection B a id) e = fin d a' e' ∧ w'.ownsRow w.heap.size 5 1 r d.length (u8s d) ∧ (e' = 0 → a' ≤ B.length) ∧ (∀ c ∈ d, c < 256) := by
  by_cases he : e = 0
  · subst he
    refine (rr_section q v B a id w h hB (by omega) hid).mono ?_
    rintro en w' ⟨hm, hg⟩
    refine ⟨hm, ?_⟩
    cases ho : outSection B a id with
    | ok d b =>
      rw [ho] at hg
      obtain ⟨⟨r, rfl, hO⟩, hR⟩ := hg
      exact ⟨d, r, b, 0, rfl, hR, by rw [outE_zero, fin, if_pos rfl], hO, fun _ => outSection_to hB ho, (sec_inv hB ho).2.2.2.1⟩
    | bad k =>
      have hk := sec_bad hB ho
      rw [ho] at hg
      obtain ⟨rfl, hR⟩ := hg
      exact ⟨[], _, a, k, rfl, hR, by rw [outE_zero, fin, if_neg hk], World.ownsRow_nil _ _ _ _, fun h => absurd h hk, fun c hc => by cases hc⟩
  · refine (rr_section_err q v B a (e : Int) _ w h (by omega)).mono ?_
    rintro en w' ⟨rfl, rfl⟩
    exact ⟨Mods.refl _ _, [], _, a, e, rfl, h, by rw [outE_ne _ he, fin, if_neg he], World.ownsRow_nil _ _ _ _, fun h => absurd h he, fun c hc => by cases hc⟩

section
variable {B : List Nat} {i x e x' e' : Nat} {acc : List (List Nat × Nat)} {d : List Nat} {T : Out (List (List Nat × Nat))}
theorem secs_step (hi : i < 4) (h : outE (secsF (4 - i) (1 + i) x acc B) e = T) (hx : outE (outSection B x (i + 1)) e = fin d x' e') (h0 : e' = 0) : outE (secsF (4 - (i + 1)) (1 + (i + 1)) x' (acc ++ [(d, x)]) B) e' = T := by
  obtain ⟨rfl, ho⟩ := fin_ok hx h0
  subst h0
  rw [outE_zero] at h ⊢
  rw [← h, show 4 - i = (4 - (i + 1)) + 1 by omega, secsF, show 1 + i = i + 1 by omega, ho]
  simp only [thenO]
  rw [show 1 + (i + 1) = i + 1 + 1 by omega]
theorem secs_fail (hi : i < 4) (h : outE (secsF (4 - i) (1 + i) x acc B) e = T) (hx : outE (outSection B x (i + 1)) e = fin d x' e') (h0 : e' ≠ 0) (k id a : Nat) (acc2 : List (List Nat × Nat)) : outE (secsF k id a acc2 B) e' = T := by
  rw [outE_ne _ h0, ← h]
  rcases fin_bad hx h0 with ⟨rfl, ho⟩ | ⟨k, rfl⟩
  · rw [outE_zero, show 4 - i = (4 - (i + 1)) + 1 by omega, secsF, show 1 + i = i + 1 by omega, ho]
    simp only [thenO]
  · rw [outE_ne _ k]
end
section
variable {B : List Nat} {x e x5 e5 : Nat} {acc : List (List Nat × Nat)} {c : List Nat} (h0 : litE B headL = 0) (hT : outE (secsF 0 5 x acc B) e = secsF 4 1 5 [] B) (hx : outE (outSection B x 5) e = fin c x5 e5)
include h0 hT hx
theorem layF_bad5 (h5 : e5 ≠ 0) : layF B = .bad e5 := by
  rw [layF, headO, if_pos h0]
  simp only [thenO]
  rw [← hT]
  rcases fin_bad hx h5 with ⟨rfl, ho⟩ | ⟨k, rfl⟩
  · rw [outE_zero, secsF]
    simp only [ho]
  · rw [outE_ne _ k]
theorem layF_ok5 (h5 : e5 = 0) : e = 0 ∧ layF B = thenO (tocO c acc x5) fun _ a5' => thenO (crcO B a5') fun _ a6 => thenO (tailO B a6) fun _ a7 => .ok (acc.map Prod.fst, acc.map Prod.snd ++ [x]) a7 := by
  obtain ⟨rfl, ho⟩ := fin_ok hx h5
  refine ⟨rfl, ?_⟩
  rw [layF, headO, if_pos h0]
  simp only [thenO]
  rw [← hT, outE_zero, secsF]
  simp only [ho]
end
theorem RdS.mods {S : Nat → Prop} {w w' : World} {vs : List Value} {T : List (List Nat)} (h : RdS w vs T) (hm : Mods S w w') (hS : ∀ v ∈ vs, ∀ k, v.ownBlock = some k → ¬ S k) : RdS w' vs T :=
  ⟨h.len, fun i v d h1 h2 => (h.at_ i v d h1 h2).mods hm (fun k hk => hS v (List.mem_of_getElem? h1) k hk)⟩
theorem RdS.set {w : World} {vs : List Value} {T : List (List Nat)} (h : RdS w vs T) {i : Nat} {r : Value} {d : List Nat} (hr : Rd w 1 r d.length (u8s d)) : RdS w (vs.set i r) (T.set i d) :=
  ⟨by simp [h.len], fun j v x h1 h2 => by
    rw [List.getElem?_set] at h1 h2
    by_cases hj : i = j
    · subst hj
      rw [if_pos rfl] at h1 h2
      by_cases hl : i < vs.length
      · rw [if_pos hl] at h1
        rw [if_pos (by rw [← h.len]; exact hl)] at h2
        cases h1; cases h2
        exact hr
      · rw [if_neg hl] at h1; cases h1
    · rw [if_neg hj] at h1 h2
      exact h.at_ j v x h1 h2⟩
theorem secs_set {acc : List (List Nat × Nat)} {i : Nat} (h : acc.length = i) (hi : i < 4) (d : List Nat) (x : Nat) : (acc.map Prod.fst ++ List.replicate (4 - i) []).set i d = (acc ++ [(d, x)]).map Prod.fst ++ List.replicate (4 - (i + 1)) [] := by
  rw [List.set_append_right _ _ (by rw [List.length_map]; omega), List.length_map, h, Nat.sub_self, show 4 - i = (4 - (i + 1)) + 1 by omega, List.replicate_succ, List.set_cons_zero, List.map_append, List.append_assoc]
  rfl
theorem offs_set {acc : List (List Nat × Nat)} {i : Nat} (h : acc.length = i) (hi : i < 4) (d : List Nat) (x : Nat) : (acc.map Prod.snd ++ List.replicate (5 - i) 0).set i x = (acc ++ [(d, x)]).map Prod.snd ++ List.replicate (5 - (i + 1)) 0 := by
  rw [List.set_append_right _ _ (by rw [List.length_map]; omega), List.length_map, h, Nat.sub_self, show 5 - i = (5 - (i + 1)) + 1 by omega, List.replicate_succ, List.set_cons_zero, List.map_append, List.append_assoc]
  rfl
end Go.Proofs.YtlgphgipfjlbfaaDoor

end

section
/- Layer 4: the reference's strings. -/
set_option linter.unusedVariables false
namespace Go.Proofs.YtlgphgipfjlbfaaDoor
open Go Go.RowKit

set_option maxHeartbeats 1000000 in
theorem ref_bytes (s : ByteArray) (hs : s.size ≤ 140737488353000) (w : World) :
    Calls Tryd.prog 35 #[.string s] w fun e w' => ∃ r, e = .returned r ∧ Made w w' 5 1 r (bytesOf (numsOf s)).length (u8s (bytesOf (numsOf s))) := by
  have hten := groups_ten (x := s.size) (by omega)
  have HL : Hid (((groups s.size).length + s.size) * 1 ≤ 140737488355328 ∧ (groups s.size).length + s.size ≤ maxLen) := by show _ ∧ _; unfold maxLen; omega
  have HW : Hid (bytesOf (numsOf s) = groups s.size ++ numsOf s) := by show _ = _; rw [bytesOf, numsOf_length]
  have hw : IntKind.u64.wrap (s.size : Int) = (s.size : Int) := by rw [IntKind.wrap_u64]; omega
  go_enter Tryd.func35, Tryd.ntmps35
  go_wp2_with fail
  refine (ref_encode s.size (by omega) _).mono ?_
  rintro e w1 ⟨r, rfl, hM⟩
  obtain ⟨p, c, hr⟩ := (Rd.of_owns hM.1).shape
  subst hr
  have HO : Hid (w1.ownsRow 0 5 1 (.slice p (groups s.size).length c) (groups s.size).length (u8s (groups s.size))) := owns_rebase hM.1 (fun _ _ => Nat.zero_le _)
  have HF : Hid (∀ k, (Value.slice p (groups s.size).length c).ownBlock = some k → w.heap.size ≤ k) := fun k hk => (hM.1.lt k hk).1
  have HB := Lib.hid hM.2
  clear hM
  go_wp2_with (at_builtin; refine wpList_extendStr Tryd.elemU8 Tryd.underlying9 _ _ _ _ HO.out s HL.out rfl _ _ rfl rfl rfl ?_)
  intro v2 w2 hown hmods hfr
  have HM2 : Hid (Made w w2 5 1 v2 (bytesOf (numsOf s)).length (u8s (bytesOf (numsOf s)))) := by
    refine ⟨?_, HB.out.trans (hmods.below HB.out.size (fun k hk e => by have := HF.out k e; omega))⟩
    have h2 := owns_rebase hown (base' := w.heap.size) (fun k hk => by
      rcases hfr k hk with e | e
      · exact HF.out k e
      · have := HB.out.size; omega)
    rw [HW.out, List.length_append, numsOf_length, u8s_append]
    exact h2
  clear hown hmods hfr
  go_wp2_with fail
  go_ret
  exact ⟨_, rfl, HM2.out⟩
end Go.Proofs.YtlgphgipfjlbfaaDoor

end

section
/- Layer 4: the reference's frames. -/
set_option linter.unusedVariables false
namespace Go.Proofs.YtlgphgipfjlbfaaDoor
open Go Go.RowKit

set_option maxHeartbeats 1000000 in
theorem ref_frame (id : Nat) (v : Value) (l : List Nat) (w : World) (hid : id < 256) (h : Rd w 1 v l.length (u8s l)) (hl : ∀ c ∈ l, c < 256) (hn : l.length ≤ 140737488353000) :
    Calls Tryd.prog 25 #[.int .u8 (id : Int), v] w fun e w' => ∃ r, e = .returned r ∧ Made w w' 5 1 r (frameOf id l).length (u8s (frameOf id l)) := by
  have hten := groups_ten (x := l.length) (by omega)
  have HB0 : Hid (Below w.heap.size w (w.alloc (.cells #[.int .u8 (id : Int)] 5))) := (Below.refl _ _).alloc (Nat.le_refl _) _
  have HR0 := Lib.hid (h.below HB0.out)
  have HCv := (HR0.out.conv (P := Tryd.prog) 22 5 9 Tryd.underlying22 Tryd.underlying5 Tryd.underlying9)
  have HNs := Lib.hid (numsOf_strOf hl)
  have HSz : Hid ((strOf l).size ≤ 140737488353000) := by show _ ≤ _; rw [← numsOf_length, numsOf_strOf hl]; exact hn
  have HO0 : Hid ((w.alloc (.cells #[.int .u8 (id : Int)] 5)).ownsRow 0 5 1 (.slice (some ⟨w.heap.size, 0, none⟩) 1 1) 1 (u8s [id])) := World.ownsRow_lit (base := 0) w #[.int .u8 (id : Int)] 1 (Nat.zero_le _) (by simp [maxLen]) (by simp)
  have HM := Lib.hid hl
  have HLen : Hid ((bytesOf l).length ≤ 140737488353010) := by show _ ≤ _; rw [bytesOf_length]; omega
  obtain ⟨p, c, hv⟩ := h.shape
  subst hv
  clear h hl
  go_enter Tryd.func25, Tryd.ntmps25
  go_wp2_with fail
  refine (ref_bytes (strOf l) HSz.out _).mono ?_
  rintro e w1 ⟨r, rfl, hM⟩
  rw [HNs.out] at hM
  obtain ⟨p1, c1, hr⟩ := (Rd.of_owns hM.1).shape
  subst hr
  have HR1 := Lib.hid (Rd.of_owns hM.1)
  have HO1 := Lib.hid ((Mods.of_below hM.2 (fun _ => False)).owns HO0.out (fun _ _ e => e))
  have HB1 := Lib.hid (HB0.out.trans (hM.2.mono HB0.out.size))
  have HL1 : Hid ((1 + (bytesOf l).length) * 1 ≤ 140737488355328 ∧ 1 + (bytesOf l).length ≤ maxLen) := by show _ ∧ _; have := HLen.out; unfold maxLen; omega
  clear hM HCv
  go_wp2_with (at_builtin; refine wpList_extend Tryd.elemU8 _ _ _ _ _ _ _ HO1.out HR1.out (u8s_oneCell _) HL1.out rfl _ _ rfl rfl rfl ?_)
  intro v2 w2 hown hmods hfr
  obtain ⟨p2, c2, hr⟩ := (Rd.of_owns hown).shape
  subst hr
  have HB2 : Hid (Below w.heap.size w w2) := HB1.out.trans (hmods.below HB1.out.size (fun k hk e => by have e' : w.heap.size = k := Option.some.inj e; omega))
  have HR2 : Hid (Rd w2 1 (.slice p2 (1 + (bytesOf l).length) c2) (id :: bytesOf l).length (u8s (id :: bytesOf l))) := by
    show Rd _ _ _ _ _
    rw [List.length_cons, Nat.add_comm (bytesOf l).length 1]
    exact Rd.of_owns hown
  have HM2 : Hid (∀ z ∈ id :: bytesOf l, z < 256) := fun z hzm => by
    rcases List.mem_cons.1 hzm with rfl | h1
    · exact hid
    · exact bytesOf_lt HM.out z h1
  have HL2 : Hid ((id :: bytesOf l).length ≤ 140737488355000) := by show _ ≤ _; rw [List.length_cons]; have := HLen.out; omega
  clear hown hmods hfr
  go_wp2_with fail
  refine (ref_append _ (id :: bytesOf l) _ HR2.out HM2.out HL2.out).mono ?_
  rintro e w3 ⟨r, rfl, hM⟩
  have HM3 : Hid (Made w w3 5 1 r (frameOf id l).length (u8s (frameOf id l))) := ⟨owns_rebase hM.1 (fun k hk => by have := (hM.1.lt k hk).1; have := HB2.out.size; omega), HB2.out.trans (hM.2.mono HB2.out.size)⟩
  clear hM
  go_wp2_with fail
  go_ret
  exact ⟨_, rfl, HM3.out⟩
end Go.Proofs.YtlgphgipfjlbfaaDoor

end

section
/- Bytes of the call's own, or a full row that is read (a constant's bytes): what is appended goes to a row of the call's own. No program in sight. -/
set_option linter.unusedVariables false
namespace Go.Proofs.YtlgphgipfjlbfaaDoor
open Go Go.RowKit

section
variable {P : Program}
/-- 'append(s, x...)' of a row that is full. -/
theorem wpList_extendF {t e : TypeId} {sz bytes : Nat} (hE : Elem P t e sz bytes) (w : World) (v v2 : Value) (n m : Nat) (xs news : List Value) (hs0 : Rd w sz v n xs) (hfull : ∃ p, v = .slice p n n) (hr : Rd w sz v2 m news) (hm : 0 < m) (hn0 : 0 < n) (h1 : ∀ u ∈ news, u.oneCell' = true) (hb : (n + m) * bytes ≤ 140737488355328 ∧ n + m ≤ maxLen)
    {ops : Array Oper} {rest : List Oper} {o : Oper} {a : Act} {Q : Exit → Act → World → Prop} (hgd : Region.wanted o (yielded ops a.tmps) = true) (s x : Operand) (ho : o.op = .call { callee := .builtin .append, args := #[s, x], argTypes := #[t, t] })
    (hs : a.eval s = v) (hx : a.eval x = v2)
    (h : ∀ v' w', w'.ownsRow w.heap.size e sz v' (n + m) (xs ++ news) → Below w.heap.size w w' → wpList P ops Q rest (a.put o.dst v') w') : wpList P ops Q (o :: rest) a w := by
  obtain ⟨i, z, hi, hz, hsize, hby, hzs⟩ := hE.hi
  obtain ⟨p, c, hv, hl0, _, _, hnil0, hcell0⟩ := hs0
  obtain ⟨p', hv'⟩ := hfull
  subst hv
  simp only [Value.slice.injEq] at hv'
  obtain ⟨rfl, _, rfl⟩ := hv'
  obtain ⟨p2, c2, rfl, hl, _, _, hnil, hcell⟩ := hr
  cases p with
  | none => have := (hnil0 rfl).1; omega
  | some ad0 =>
    cases p2 with
    | none => have := (hnil rfl).1; omega
    | some ad =>
      subst hsize
      subst hby
      have hsmall : c + m ≤ 9223372036854775807 := by have := hb.2; simp only [maxLen] at this; omega
      have hrun := run_append_grow (P := P) w t o.type e i z hE.ht hi hz ad0 c c xs hl0 (hcell0 ad0 rfl) ad m c2 news hl (hcell ad rfl) (by omega) (by omega) (growslice_fits (by omega) hb.1)
      have hge := grownCap_ge w (c + m) c e
      have hlen : (xs ++ news).length = (c + m) * i.size := by rw [List.length_append, hl0, hl, Nat.add_mul]
      refine BigFrame.wpList_want hgd fun K hK => ?_
      unfold Oper.wp execOp
      simp only [ho, resolve, invoke, builtin, Sem.run_bind, Sem.run_pure, Result.andThen_ok, List.map_toArray, List.map_cons, List.map_nil, hs, hx, hrun]
      refine hK _ _ (h _ _ ⟨hlen, .inr ⟨w.heap.size, _, _, rfl, Nat.le_refl _, heap_alloc_new w.drew _, hge, grownCap_le_maxLen w (c + m) c e hb.2, ?_, ?_⟩⟩ ⟨rfl, rfl, rfl, by simp, fun k hk => Below.heap_alloc w.drew _ k hk⟩)
      · simp only [Array.size_append, List.size_toArray, size_zeroCells, hzs, hl0, hl, ← Nat.add_mul]
        congr 1
        omega
      · simp only [Array.toList_append, List.append_assoc]
        rw [← List.append_assoc, ← hlen]
        exact List.take_left
end

/-- Bytes that are read, to which may be appended: the call's own, or a full row. -/
structure AppB (w wr : World) (L : List Nat) (v : Value) : Prop where
  rd : Rd wr 1 v L.length (u8s L)
  far : ∀ k, v.ownBlock = some k → w.heap.size ≤ k ∧ k < wr.heap.size
  bel : Below w.heap.size w wr
  how : OwnB w wr L v ∨ (L ≠ [] ∧ ∃ p, v = .slice p L.length L.length)
theorem AppB.of {w wr : World} {L : List Nat} {v : Value} (h : OwnB w wr L v) : AppB w wr L v := ⟨h.rd, fun k hk => h.row.lt k hk, h.bel, Or.inl h⟩
theorem AppB.shape {w wr : World} {L : List Nat} {v : Value} (h : AppB w wr L v) : ∃ p c, v = .slice p L.length c := h.rd.shape
theorem AppB.mods {S : Nat → Prop} {w wr w' : World} {L : List Nat} {v : Value} (h : AppB w wr L v) (hm : Mods S wr w') (hS : ∀ k, v.ownBlock = some k → ¬ S k) (hb : ∀ k, k < w.heap.size → ¬ S k) : AppB w w' L v := by
  have hbel := h.bel.trans (hm.below h.bel.size hb)
  refine ⟨h.rd.mods hm hS, fun k hk => ⟨(h.far k hk).1, Nat.lt_of_lt_of_le (h.far k hk).2 hm.size⟩, hbel, ?_⟩
  rcases h.how with ho | hf
  · exact Or.inl ⟨hm.owns ho.row hS, hbel⟩
  · exact Or.inr hf
theorem AppB.below {w wr w' : World} {L : List Nat} {v : Value} (h : AppB w wr L v) (hb : Below wr.heap.size wr w') : AppB w w' L v :=
  h.mods (Mods.of_below hb (fun _ => False)) (fun _ _ h => h) (fun _ _ h => h)
/-- 'append(s, x...)' of bytes, whichever they are. -/
theorem wpList_extendA {P : Program} {t : TypeId} {bytes : Nat} (hE : Elem P t 5 1 bytes) (w wr : World) (v v2 : Value) (L e : List Nat) (hA : AppB w wr L v) (hr : Rd wr 1 v2 e.length (u8s e)) (hne : e ≠ []) (hb : (L.length + e.length) * bytes ≤ 140737488355328 ∧ L.length + e.length ≤ maxLen)
    {ops : Array Oper} {rest : List Oper} {o : Oper} {a : Act} {Q : Exit → Act → World → Prop} (hgd : Region.wanted o (yielded ops a.tmps) = true) (s x : Operand) (ho : o.op = .call { callee := .builtin .append, args := #[s, x], argTypes := #[t, t] })
    (hs : a.eval s = v) (hx : a.eval x = v2)
    (h : ∀ v' w', OwnB w w' (L ++ e) v' → Mods (fun k => v.ownBlock = some k) wr w' → Fresh wr.heap.size v v' → wpList P ops Q rest (a.put o.dst v') w') : wpList P ops Q (o :: rest) a wr := by
  rcases hA.how with hO | ⟨hL, hf⟩
  · exact wpList_extend hE wr v v2 L.length e.length (u8s L) (u8s e) hO.base0 hr (u8s_oneCell _) hb hgd s x ho hs hx (fun v' w' k1 m1 f1 => h v' w' (hO.extended (e := e) k1 m1 f1) m1 f1)
  · have hl0 : 0 < L.length := List.length_pos_iff.2 hL
    have he0 : 0 < e.length := List.length_pos_iff.2 hne
    refine wpList_extendF hE wr v v2 L.length e.length (u8s L) (u8s e) hA.rd hf hr he0 hl0 (u8s_oneCell _) hb hgd s x ho hs hx (fun v' w' k1 b1 => h v' w' ⟨?_, hA.bel.trans (b1.mono hA.bel.size)⟩ (Mods.of_below b1 _) (fun k hk => Or.inr (k1.lt k hk).1))
    show w'.ownsRow w.heap.size _ 1 v' (L ++ e).length (u8s (L ++ e))
    rw [List.length_append, u8s_append]
    exact owns_rebase k1 (fun k hk => Nat.le_trans hA.bel.size (k1.lt k hk).1)
end Go.Proofs.YtlgphgipfjlbfaaDoor

end

section
/- Layer 16: the reference's Assemble. -/
set_option linter.unusedVariables false
set_option maxRecDepth 20000
namespace Go.Proofs.YtlgphgipfjlbfaaDoor
open Go Go.RowKit

theorem putS_snoc (S : List (List Nat)) (d : List Nat) : ∀ id, putS id (S ++ [d]) = putS id S ++ frameOf (id + S.length) d := by
  induction S with
  | nil => intro id; simp [putS]
  | cons x S ih => intro id; rw [List.cons_append, putS, putS, ih, List.append_assoc, List.length_cons, show id + 1 + S.length = id + (S.length + 1) by omega]
theorem offs_snoc (S : List (List Nat)) (d : List Nat) : ∀ id a, offs id a (S ++ [d]) = offs id a S ++ [a + (putS id S).length] := by
  induction S with
  | nil => intro id a; simp [offs, putS]
  | cons x S ih => intro id a; rw [List.cons_append, offs, offs, ih, List.cons_append, putS, List.length_append, show a + (frameOf id x).length + (putS (id + 1) S).length = a + ((frameOf id x).length + (putS (id + 1) S).length) by omega]
/-- What has been written; the offsets that are laid down. -/
def asmTo (S : List (List Nat)) (i : Nat) : List Nat := headL ++ putS 1 (S.take i)
def atTo (S : List (List Nat)) (i : Nat) : List Nat := offs 1 5 (S.take i) ++ List.replicate (5 - i) 0
theorem asmTo_step {S : List (List Nat)} {i : Nat} {d : List Nat} (h : S[i]? = some d) : asmTo S (i + 1) = asmTo S i ++ frameOf (1 + i) d := by
  have hi := (List.getElem?_eq_some_iff.1 h).1
  have e : S.take (i + 1) = S.take i ++ [d] := by rw [List.take_add_one, h]; rfl
  rw [asmTo, e, putS_snoc, List.length_take, Nat.min_eq_left (by omega), asmTo, List.append_assoc]
theorem asmTo_len (S : List (List Nat)) (i : Nat) : (asmTo S i).length = 5 + (putS 1 (S.take i)).length := by rw [asmTo, List.length_append]; rfl
theorem atTo_len {S : List (List Nat)} (i : Nat) (h : i ≤ S.length) (h5 : i ≤ 5) : (atTo S i).length = 5 := by rw [atTo, List.length_append, offs_length, List.length_take, List.length_replicate]; omega
theorem atTo_step {S : List (List Nat)} {i : Nat} {d : List Nat} (h : S[i]? = some d) (h5 : i < 5) : (atTo S i).set i (asmTo S i).length = atTo S (i + 1) := by
  have hi := (List.getElem?_eq_some_iff.1 h).1
  have e : S.take (i + 1) = S.take i ++ [d] := by rw [List.take_add_one, h]; rfl
  have hl : (offs 1 5 (S.take i)).length = i := by rw [offs_length, List.length_take]; omega
  rw [atTo, atTo, e, offs_snoc, asmTo_len, List.set_append_right _ _ (by omega), hl, Nat.sub_self, show 5 - i = (5 - (i + 1)) + 1 by omega, List.replicate_succ, List.set_cons_zero, List.append_assoc]
  rfl
theorem asmTo_le (S : List (List Nat)) (i : Nat) : (asmTo S i).length ≤ (asmL S).length := by
  have key : ∀ (S : List (List Nat)) (id i : Nat), (putS id (S.take i)).length ≤ (putS id S).length := by
    intro S
    induction S with
    | nil => intro id i; simp [putS]
    | cons x S ih =>
      intro id i
      cases i with
      | zero => simp [putS]
      | succ i => rw [List.take_succ_cons, putS, putS, List.length_append, List.length_append]; have := ih (id + 1) i; omega
  have := key S 1 i
  rw [asmTo_len, asmL, List.length_append, withCrc_length, bodyL]
  simp only [List.length_append]
  have : headL.length = 5 := rfl
  omega
theorem offs_le : ∀ (S : List (List Nat)) (id a : Nat), ∀ x ∈ offs id a S, x ≤ a + (putS id S).length
  | [], _, _, x, hx => by cases hx
  | d :: S, id, a, x, hx => by
    rw [offs] at hx
    rw [putS, List.length_append]
    rcases List.mem_cons.1 hx with rfl | hx
    · omega
    · have := offs_le S (id + 1) _ x hx; omega
theorem atTo_four {S : List (List Nat)} (h4 : S.length = 4) : atTo S 4 = offs 1 5 S ++ [0] := by
  rw [atTo, List.take_of_length_le (by omega)]; rfl
theorem asmTo_four {S : List (List Nat)} (h4 : S.length = 4) : asmTo S 4 = headL ++ putS 1 S := by
  rw [asmTo, List.take_of_length_le (by omega)]
theorem sec_le {S : List (List Nat)} {i : Nat} {d : List Nat} (h : S[i]? = some d) : (asmTo S i).length + (frameOf (1 + i) d).length ≤ (asmL S).length := by
  have := asmTo_le S (i + 1)
  rw [asmTo_step h, List.length_append] at this
  exact this

set_option maxHeartbeats 16000000 in
theorem ref_assemble16 (vs : List Value) (S : List (List Nat)) (w : World) (h : RdS w vs S) (h4 : S.length = 4) (ok : okS4 S) (hE : (asmL S).length ≤ 140737488352000) :
    Calls Tryd.prog 12 #[.agg vs.toArray] w fun e w' => ∃ r, e = .returned r ∧ OwnB w w' (asmL S) r := by
  have H := Lib.hid h; have H4 := Lib.hid h4; have HOk := Lib.hid ok; have HEn := Lib.hid hE
  have HL4 : Hid (vs.length = 4) := h.len.trans h4
  clear h h4 ok hE
  go_enter Tryd.func12, Tryd.ntmps12
  go_wp2_with (refine wpList_boxA rfl _ _ rfl vs rfl ?_)
  intro w1 hK hB hS
  have HK := Lib.hid hK; have HB1 := Lib.hid hB; have HS1 := Lib.hid hS
  obtain ⟨g, hg⟩ : ∃ g, w.heap.size = g := ⟨_, rfl⟩
  have HG := Lib.hid hg
  rw [hg] at HK HS1 ⊢
  clear hK hB hS hg
  have kc := fun (w : World) (C : Array Value) (n c : Nat) => Lib.run_convert_bytes_const (P := Tryd.prog) w 22 5 C n c Tryd.underlying22 Tryd.underlying5
  have hbA : Below w1.heap.size w1 (w1.alloc (.cells #[.int .u8 84, .int .u8 83, .int .u8 66, .int .u8 75, .int .u8 1] 5 (5, 6))) := (Below.refl _ _).alloc (Nat.le_refl _) _
  have hsz2 : (w1.alloc (.cells #[.int .u8 84, .int .u8 83, .int .u8 66, .int .u8 75, .int .u8 1] 5 (5, 6))).heap.size = w1.heap.size + 1 := by simp
  have hrd := lit_rd_mark w1 #[.int .u8 84, .int .u8 83, .int .u8 66, .int .u8 75, .int .u8 1] (5, 6) headL 5 rfl rfl (by decide)
  have HA2 : Hid (AppB w (w1.alloc (.cells #[.int .u8 84, .int .u8 83, .int .u8 66, .int .u8 75, .int .u8 1] 5 (5, 6))) headL (.slice (some ⟨w1.heap.size, 0, none⟩) 5 5)) :=
    ⟨hrd, fun k hk => by have e : w1.heap.size = k := Option.some.inj hk; have := HB1.out.size; omega, HB1.out.trans (hbA.mono HB1.out.size), Or.inr ⟨by decide, _, rfl⟩⟩
  have HK2 := Lib.hid (HK.out.of_same (hbA.block g HK.out.lt))
  have HSz2 : Hid (g < w1.heap.size ∧ (w1.alloc (.cells #[.int .u8 84, .int .u8 83, .int .u8 66, .int .u8 75, .int .u8 1] 5 (5, 6))).heap.size = w1.heap.size + 1) := ⟨HK.out.lt, hsz2⟩
  clear hbA hsz2 hrd HK HB1 HS1
  go_wp2_with (refine wpList_allocA arrI rfl rfl ?_)
  intro w3 hK3 hB3 hS3
  have hB3' := hB3
  rw [← HSz2.out.2] at hB3'
  have HA3 := Lib.hid (HA2.out.below hB3')
  have HK3 := Lib.hid (HK2.out.of_same (hB3'.block g HK2.out.lt))
  have HJ3 := Lib.hid hK3
  have HV3 : Hid (∀ k, (Value.slice (some ⟨w1.heap.size, 0, none⟩) 5 5).ownBlock = some k → g < k ∧ k ≠ w1.heap.size + 1) := fun k hk => by have e : w1.heap.size = k := Option.some.inj hk; have := HSz2.out.1; omega
  obtain ⟨h0, hh0⟩ : ∃ h0, w1.heap.size + 1 = h0 := ⟨_, rfl⟩
  rw [hh0] at HJ3 HV3 ⊢
  have HH : Hid (g < h0) := by show _ < _; have := HSz2.out.1; omega
  obtain ⟨lb, hlb⟩ : ∃ lb, w1.heap.size = lb := ⟨_, rfl⟩
  rw [hlb] at HA3 HV3 ⊢
  clear hK3 hB3 hB3' hS3 hh0 hlb HA2 HK2 HSz2 kc
  go_wp2_with fail
  go_loopw [3, 5] (fun vv iv wr => ∃ (i : Nat), i ≤ 4 ∧ iv = .int .i64 (i : Int) ∧ Hid (AppB w wr (asmTo S i) vv) ∧ Hid (Blk wr g vs) ∧ Hid (Blk wr h0 (natI (atTo S i))) ∧ Hid (∀ k, vv.ownBlock = some k → g < k ∧ k ≠ h0)) (fun _ iv _ => 4 - (intOf iv).toNat)
  case atStart => exact ⟨0, Nat.zero_le _, rfl, HA3.out, HK3.out, HJ3.out, HV3.out⟩
  case round =>
    obtain ⟨i, hi, rfl, HA, HKr, HJr, HV⟩ := hrel
    clear HA3 HK3 HJ3 HV3
    obtain ⟨pv, cv, hvv⟩ := HA.out.shape
    subst hvv
    have him : (i : Int) ≤ 4 := by omega
    by_cases hlt : i < 4
    · have hlt' : (i : Int) < 4 := by omega
      have hlt5 : (i : Int) < 5 := by omega
      obtain ⟨d, hd⟩ : ∃ d, S[i]? = some d := ⟨_, List.getElem?_eq_getElem (by have := H4.out; omega)⟩
      obtain ⟨p, c, hv, hr⟩ := H.out.get hd
      have HRd := Lib.hid hr
      have HStep := Lib.hid (asmTo_step hd)
      have HAt := Lib.hid (atTo_step hd (by omega))
      have HLe := Lib.hid (Nat.le_trans (sec_le hd) HEn.out)
      have HOd := Lib.hid (HOk.out d (List.mem_of_getElem? hd))
      have hfl := frameOf_length (1 + i) d
      have HFl : Hid (frameOf (1 + i) d ≠ [] ∧ d.length ≤ 140737488352000) := ⟨fun e => by have := congrArg List.length e; rw [hfl] at this; simp at this, by have := HLe.out; omega⟩
      have hal := atTo_len (S := S) i (by have := H4.out; omega) (by omega)
      obtain ⟨x0, hx0⟩ : ∃ x0, (atTo S i)[i]? = some x0 := ⟨_, List.getElem?_eq_getElem (by omega)⟩
      have h0c : wr.cell? ⟨h0, i, none⟩ = some (.int .i64 (x0 : Int)) := by rw [HJr.out.cell, natI_get hx0]
      have h0f : wr.frozen? ⟨h0, i, none⟩ = false := HJr.out.free i
      have HLl : Hid ((asmTo S i).length ≤ 140737488352000) := by show _ ≤ _; have := HLe.out; omega
      obtain ⟨L, hL⟩ : ∃ L, asmTo S i = L := ⟨_, rfl⟩
      rw [hL] at HA HStep HAt HLe HLl HV ⊢
      have hll : (L.length : Int) ≤ 140737488352000 := by have := HLl.out; omega
      have hM : Mods (fun k => k = h0) wr (wr.setCell ⟨h0, i, none⟩ (.int .i64 (L.length : Int))) := Mods.set _ _ _ _ (fun _ => rfl)
      have HA2 := Lib.hid (HA.out.mods hM (fun k hk => (HV.out k hk).2) (fun k hk => by have := HG.out; have := HH.out; omega))
      have HK2 := Lib.hid (hM.blk HKr.out (fun e => by have := HH.out; omega))
      have HJ2 : Hid (Blk (wr.setCell ⟨h0, i, none⟩ (.int .i64 (L.length : Int))) h0 (natI (atTo S (i + 1)))) := by
        have h := HJr.out.set i (.int .i64 (L.length : Int))
        have e : (natI (atTo S i)).set i (.int .i64 (L.length : Int)) = natI (atTo S (i + 1)) := by rw [← HAt.out]; simp [natI, List.map_set]
        rw [e] at h
        exact h
      have g0 : (wr.setCell ⟨h0, i, none⟩ (.int .i64 (L.length : Int))).cell? ⟨g, i, none⟩ = some (.slice p d.length c) := by rw [HK2.out.cell]; exact hv
      have HFr : Hid (Calls Tryd.prog 25 #[.int .u8 ((i : Int) + 1), .slice p d.length c] (wr.setCell ⟨h0, i, none⟩ (.int .i64 (L.length : Int))) fun e w' => ∃ r, e = .returned r ∧ Made (wr.setCell ⟨h0, i, none⟩ (.int .i64 (L.length : Int))) w' 5 1 r (frameOf (i + 1) d).length (u8s (frameOf (i + 1) d))) :=
        ref_frame (i + 1) (.slice p d.length c) d _ (by omega) (HRd.out.below HA2.out.bel) HOd.out.1 (by have := HFl.out.2; omega)
      rw [show 1 + i = i + 1 by omega] at HStep HLe HFl
      clear hd hv hr hfl hal hx0 hL hM HA HKr HJr
      go_wp2_with fail
      generalize wr.setCell ⟨h0, i, none⟩ (.int .i64 (L.length : Int)) = w4 at *
      refine HFr.out.mono ?_
      rintro en w5 ⟨r, rfl, hMd⟩
      have HA5 := Lib.hid (HA2.out.below hMd.2)
      have HK5 := Lib.hid (HK2.out.of_same (hMd.2.block g HK2.out.lt))
      have HJ5 := Lib.hid (HJ2.out.of_same (hMd.2.block h0 HJ2.out.lt))
      have HR5 := Lib.hid (Rd.of_owns hMd.1)
      obtain ⟨p5, c5, hv5⟩ := (Rd.of_owns hMd.1).shape
      subst hv5
      have HBd : Hid ((L.length + (frameOf (i + 1) d).length) * 1 ≤ 140737488355328 ∧ L.length + (frameOf (i + 1) d).length ≤ maxLen) := by show _ ∧ _; have := HLe.out; unfold maxLen; omega
      clear hMd HFr HA2 HK2 HJ2 g0 h0c h0f
      go_wp2_with (at_builtin; refine wpList_extendA Tryd.elemU8 w _ _ _ L (frameOf (i + 1) d) HA5.out HR5.out HFl.out.1 HBd.out rfl _ _ rfl rfl rfl ?_)
      intro v6 w6 k6 m6 f6
      obtain ⟨L2, hL2⟩ : ∃ L2, asmTo S (i + 1) = L2 := ⟨_, rfl⟩
      have HL2 := Lib.hid hL2
      have HO6 : Hid (AppB w w6 L2 v6) := by show AppB _ _ _ _; rw [← hL2, HStep.out]; exact AppB.of k6
      have HK6 := Lib.hid (m6.blk HK5.out (fun e => by have := (HV.out g e).1; omega))
      have HJ6 := Lib.hid (m6.blk HJ5.out (fun e => (HV.out h0 e).2 rfl))
      have HV6 : Hid (∀ k, v6.ownBlock = some k → g < k ∧ k ≠ h0) := fun k hk => by
        rcases f6 k hk with e | e
        · exact HV.out k e
        · have := HK5.out.lt; have := HJ5.out.lt; omega
      obtain ⟨p6, c6, hv6⟩ := HO6.out.shape
      subst hv6
      clear k6 m6 f6 HA5 HK5 HJ5 HR5 HV HBd HLe HFl HAt HStep hL2
      go_wp2_with fail
      go_round
      case rel => exact ⟨i + 1, by omega, by go_num, (by show AppB _ _ _ _; rw [HL2.out]; exact HO6.out), HK6.out, HJ6.out, HV6.out⟩
      case measure => simp [intOf]; omega
    · have hlt' : ¬ (i : Int) < 4 := by omega
      have hi4 : i = 4 := by omega
      subst hi4
      have HT4 : Hid (S.take 4 = S) := List.take_of_length_le (by have := H4.out; omega)
      have hal := atTo_len (S := S) 4 (by have := H4.out; omega) (by omega)
      have HAl : Hid ((natI (atTo S 4)).length = 5) := by show _ = _; rw [natI_length, hal]
      have hle := asmTo_le S 4
      have HEl : Hid ((bodyL S).length + 8 = (asmL S).length) := by show _ = _; rw [asmL, List.length_append, withCrc_length]; rfl
      have HC := Lib.hid (ref_contents16 (atTo S 4) wr hal (fun x hx => by
        rw [atTo_four H4.out] at hx
        have hl := asmTo_len S 4
        rw [HT4.out] at hl
        rcases List.mem_append.1 hx with e | e
        · have := offs_le S 1 5 x e; have := HEn.out; omega
        · simp at e; omega))
      have he : (atTo S 4).take 4 = offs 1 5 S := by
        rw [atTo_four H4.out, List.take_append_of_le_length (by rw [offs_length]; have := H4.out; omega), List.take_of_length_le (by rw [offs_length]; have := H4.out; omega)]
      rw [he] at HC
      have HBo : Hid (bodyL S = asmTo S 4 ++ frameOf 5 (contents (offs 1 5 S))) := by show _ = _; rw [bodyL, asmTo_four H4.out]
      have HCl := Lib.hid (contents_lt (offs 1 5 S))
      obtain ⟨C, hC⟩ : ∃ C, contents (offs 1 5 S) = C := ⟨_, rfl⟩
      rw [hC] at HC HBo HCl
      obtain ⟨L, hL⟩ : ∃ L, asmTo S 4 = L := ⟨_, rfl⟩
      rw [hL] at HA HBo HV ⊢
      have hfl := frameOf_length 5 C
      have HBl : Hid (L.length + (frameOf 5 C).length = (bodyL S).length ∧ (bodyL S).length + 8 ≤ 140737488352000 ∧ C.length ≤ 140737488352000) := by
        have h1 := congrArg List.length HBo.out
        rw [List.length_append] at h1
        exact ⟨h1.symm, by have := HEl.out; have := HEn.out; omega, by have := HEl.out; have := HEn.out; omega⟩
      have HNe : Hid (frameOf 5 C ≠ []) := fun e => by have := congrArg List.length e; rw [hfl] at this; simp at this
      clear hle he hC hL hal hfl
      go_wp2_with (refine wpList_loadA arrI rfl _ rfl h0 rfl _ HJr.out HAl.out ?_)
      refine HC.out.mono ?_
      rintro en w4 ⟨r4, rfl, hO⟩
      have HR4 := Lib.hid hO.rd
      have HA4 := Lib.hid (HA.out.below hO.bel)
      obtain ⟨p4, c4, hv4⟩ := hO.shape
      subst hv4
      clear hO HC HA HJr HKr HAl
      go_wp2_with fail
      refine (ref_frame 5 (.slice p4 C.length c4) C w4 (by decide) HR4.out HCl.out (by have := HBl.out; omega)).mono ?_
      rintro en w5 ⟨r5, rfl, hMd⟩
      have HA5 := Lib.hid (HA4.out.below hMd.2)
      have HR5 := Lib.hid (Rd.of_owns hMd.1)
      obtain ⟨p5, c5, hv5⟩ := (Rd.of_owns hMd.1).shape
      subst hv5
      have HBd : Hid ((L.length + (frameOf 5 C).length) * 1 ≤ 140737488355328 ∧ L.length + (frameOf 5 C).length ≤ maxLen) := by show _ ∧ _; have := HBl.out; unfold maxLen; omega
      clear hMd HR4 HA4
      go_wp2_with (at_builtin; refine wpList_extendA Tryd.elemU8 w _ _ _ L (frameOf 5 C) HA5.out HR5.out HNe.out HBd.out rfl _ _ rfl rfl rfl ?_)
      intro v6 w6 k6 m6 f6
      rw [← HBo.out] at k6
      have HO6 := Lib.hid k6
      obtain ⟨p6, c6, hv6⟩ := k6.shape
      subst hv6
      have HOl := Lib.hid (bodyL_lt H4.out HOk.out)
      clear k6 m6 f6 HA5 HR5 HV HBo HNe HBd
      obtain ⟨Bd, hBd⟩ : ∃ Bd, bodyL S = Bd := ⟨_, rfl⟩
      have HAs : Hid (asmL S = withCrc Bd ++ tailL) := by show _ = _; rw [asmL, hBd]
      rw [hBd] at HO6 HOl HBl ⊢
      clear hBd
      go_wp2_with fail
      refine (ref_append _ Bd w6 HO6.out.rd HOl.out (by have := HBl.out; omega)).mono ?_
      rintro en w7 ⟨r7, rfl, hMd⟩
      have HB7 : Hid (Below w.heap.size w w7) := HO6.out.bel.trans (hMd.2.mono HO6.out.bel.size)
      have HOz := Lib.hid (owns_rebase hMd.1 (base' := 0) (fun _ _ => Nat.zero_le _))
      have HLt : Hid (∀ k, r7.ownBlock = some k → w.heap.size ≤ k) := fun k hk => Nat.le_trans HO6.out.bel.size (hMd.1.lt k hk).1
      obtain ⟨p7, c7, hv7⟩ := (Rd.of_owns hMd.1).shape
      subst hv7
      have HBd : Hid (((withCrc Bd).length + (⟨#[75, 66, 83, 84]⟩ : ByteArray).size) * 1 ≤ 140737488355328 ∧ (withCrc Bd).length + (⟨#[75, 66, 83, 84]⟩ : ByteArray).size ≤ maxLen) := by
        show _ ∧ _
        have h := HBl.out
        rw [withCrc_length, show (⟨#[75, 66, 83, 84]⟩ : ByteArray).size = 4 from rfl]
        unfold maxLen; omega
      clear hMd HO6
      go_wp2_with (at_builtin; refine wpList_extendStr Tryd.elemU8 Tryd.underlying9 _ _ _ _ HOz.out ⟨#[75, 66, 83, 84]⟩ HBd.out rfl _ _ rfl rfl rfl ?_)
      intro v8 w8 hown hmods hfr
      have HO8 : Hid (OwnB w w8 (asmL S) v8) := by
        refine ⟨?_, HB7.out.trans (hmods.below HB7.out.size (fun k hk e => by have := HLt.out k e; omega))⟩
        show w8.ownsRow _ _ 1 v8 (asmL S).length (u8s (asmL S))
        rw [HAs.out, List.length_append, u8s_append]
        refine owns_rebase hown (fun k hk => ?_)
        rcases hfr k hk with e | e
        · exact HLt.out k e
        · have := HB7.out.size; omega
      obtain ⟨p8, c8, hv8⟩ : ∃ p c, v8 = .slice p ((withCrc Bd).length + (⟨#[75, 66, 83, 84]⟩ : ByteArray).size) c := (Rd.of_owns hown).shape
      subst hv8
      clear hown hmods hfr HOz HBd
      go_wp2_with fail
      go_ret
      exact ⟨_, rfl, HO8.out⟩
end Go.Proofs.YtlgphgipfjlbfaaDoor

end
