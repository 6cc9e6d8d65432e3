/- WireC, WireD, WireEl, WireFc, WireFt, WireEnds, TabM, LtC, Normal, BlkThree, Struct, LtF, LtD, in one text. -/
import Derived.Test.YtlgphgipfjlbfaaDoorMrg11
import Derived.Test.YtlgphgipfjlbfaaDoorMrg10
import Derived.Test.YtlgphgipfjlbfaaDoorMrg5
import Derived.Test.YtlgphgipfjlbfaaDoorMrg4
import Derived.Test.YtlgphgipfjlbfaaDoorMrg1
import Derived.Test.YtlgphgipfjlbfaaDoorMrg3
import Derived.Test.YtlgphgipfjlbfaaDoorMrg2
import Derived.Deep.MidRow
import Derived.Test.YtlgphgipfjlbfaaDoorMrg6

section
/- Layer 4: what the program's functions read at an offset: getSection, and the closures of Take and Section. -/
set_option linter.unusedVariables false
namespace Go.Proofs.YtlgphgipfjlbfaaDoor
open Go Go.RowKit

/-- What getSection leaves: a part of the bytes, or an error. -/
def TupR (o : Out (List Nat)) (w' : World) (en : Ending) : Prop := match o with
  | .ok l b => ∃ p c, en = .returned (.tuple #[.slice p l.length c, .int .i64 (b : Int), .int .i64 0]) ∧ Rd w' 1 (.slice p l.length c) l.length (u8s l)
  | .bad e => en = .returned (.tuple #[.slice none 0 0, .int .i64 0, .int .i64 (e : Int)])
/-- What the closures leave: new memory, or an error. -/
def TupS (o : Out (List Nat)) (w w' : World) (en : Ending) : Prop := match o with
  | .ok l b => ∃ p c, en = .returned (.tuple #[.slice p l.length c, .int .i64 (b : Int), .int .i64 0]) ∧ w'.ownsRow w.heap.size 5 1 (.slice p l.length c) l.length (u8s l)
  | .bad e => ∃ r, en = .returned (.tuple #[r, .int .i64 0, .int .i64 (e : Int)])

set_option maxHeartbeats 4000000 in
theorem get_section (v : Value) (B : List Nat) (a id : Nat) (w : World) (hT : Tab w) (h : Rd w 1 v B.length (u8s B)) (hB : ∀ c ∈ B, c < 256) (ha : a ≤ B.length) (hz : B.length ≤ 140737488355000) (hid : id < 256) :
    Calls Tryd.prog 54 #[v, .int .i64 (a : Int), .int .u8 (id : Int)] w fun en w' => TupR (outSection B a id) w' en ∧ Below w.heap.size w w' := by
  have HB := Lib.hid hB
  have HT := Lib.hid hT
  obtain ⟨p, c, hv⟩ := h.shape
  subst hv
  have H := Lib.hid h
  have HG0 := Lib.hid (get_byte (.slice p B.length c) B a w h ha hz)
  clear h hB hT
  by_cases hla : B.length ≤ a
  · have HO := Lib.hid (outSection_none hla id)
    have HO2 : Hid (outByte B a = .bad 3) := by show _ = _; rw [outByte, List.getElem?_eq_none hla]
    rw [HO2.out] at HG0
    unfold Tup at HG0
    go_enter Tryd.func54, Tryd.ntmps54
    go_wp2_with fail
    refine HG0.out.mono ?_
    rintro en w1 ⟨rfl, rfl⟩
    go_wp2_with fail
    go_ret3
    exact ⟨by rw [HO.out]; rfl, Below.refl _ _⟩
  · have hlt : a < B.length := by omega
    have hget : B[a]? = some B[a] := List.getElem?_eq_getElem hlt
    have HO2 : Hid (outByte B a = .ok B[a] (a + 1)) := by show _ = _; rw [outByte, hget]
    rw [HO2.out] at HG0
    unfold Tup at HG0
    clear HO2
    by_cases hne : B[a] = id
    · rw [hne] at hget HG0
      have hcs := outSection_cases HB.out hget
      have HG := Lib.hid (calls_flip (get_any (.slice p B.length c) B ((a + 1 : Nat) : Int) w H.out HB.out))
      obtain ⟨A1, hA1⟩ : ∃ A1, a + 1 = A1 := ⟨_, rfl⟩
      rw [hA1] at HG HG0 hcs
      clear hne hget
      go_enter Tryd.func54, Tryd.ntmps54
      go_wp2_with fail
      refine HG0.out.mono ?_
      rintro en w1 ⟨rfl, rfl⟩
      clear HG0
      go_wp2_with fail
      refine HG.out.mono ?_
      rintro en w2 ⟨rfl, rfl⟩
      rcases hcs with ⟨e, he, hr, ho⟩ | ⟨x, to, hr, hto, htl, hx, ho⟩
      · rw [hr]
        have HO := Lib.hid ho
        have heb : ((e : Int) == 0) = false := by rw [beq_eq_false_iff_ne]; omega
        clear hr ho HG
        go_wp2_with fail
        go_ret3
        exact ⟨by rw [HO.out]; rfl, Below.refl _ _⟩
      · rw [hr]
        have HO := Lib.hid ho
        clear hr ho HG
        by_cases hgt : B.length - to < x
        · rw [if_pos (by omega)] at HO
          have HE := Lib.hid (get_bytes_eof (.slice p B.length c) B to x w2 H.out htl hz hgt)
          go_wp2_with fail
          refine HE.out.mono ?_
          rintro en w3 ⟨rfl, rfl⟩
          clear HE
          go_wp2_with fail
          go_ret3
          exact ⟨by rw [HO.out]; rfl, Below.refl _ _⟩
        · have HE := Lib.hid (get_bytes_ok (.slice p B.length c) B to x w2 H.out htl hz hgt)
          obtain ⟨A, hA⟩ : ∃ A, to + x = A := ⟨_, rfl⟩
          have hAl : A ≤ B.length := by omega
          rw [hA] at HE HO
          go_wp2_with fail
          refine HE.out.mono ?_
          rintro en w3 ⟨⟨p2, c2, rfl, hR⟩, rfl⟩
          have HR := Lib.hid hR
          clear HE hR
          by_cases h4 : B.length - A < 4
          · rw [if_pos (by omega)] at HO
            have HE := Lib.hid (get_bytes_eof (.slice p B.length c) B A 4 w3 H.out hAl hz h4)
            clear hgt hA
            go_wp2_with fail
            refine HE.out.mono ?_
            rintro en w4 ⟨rfl, rfl⟩
            clear HE
            go_wp2_with fail
            go_ret3
            exact ⟨by rw [HO.out]; rfl, Below.refl _ _⟩
          · rw [if_neg (by omega)] at HO
            have HE := Lib.hid (get_bytes_ok (.slice p B.length c) B A 4 w3 H.out hAl hz h4)
            obtain ⟨T, hTT⟩ : ∃ T, A + 4 = T := ⟨_, rfl⟩
            have HTl : Hid (a ≤ T ∧ T ≤ B.length ∧ ((B.take T).drop a).length = T - a) := by
              refine ⟨by omega, by omega, ?_⟩
              rw [List.length_drop, List.length_take, Nat.min_eq_left (by omega)]
            have HXl : Hid (((B.drop to).take x).length = x) := by show _ = _; rw [List.length_take, List.length_drop]; omega
            rw [hTT] at HE HO
            clear hgt hA hTT h4
            go_wp2_with fail
            refine HE.out.mono ?_
            rintro en w4 ⟨⟨p3, c3, rfl, hR3⟩, rfl⟩
            clear HE hR3
            go_wp2_with (refine wpList_fromTo Tryd.elemU8 _ _ _ a T _ H.out HTl.out.1 HTl.out.2.1 rfl _ _ _ rfl rfl rfl rfl ?_; intro p4 c4 h4)
            have HR4 : Hid (Rd w4 1 (.slice p4 (T - a) c4) ((B.take T).drop a).length (u8s ((B.take T).drop a))) := by
              show Rd _ _ _ _ _
              simp only [Nat.mul_one] at h4
              rw [HTl.out.2.2]
              simpa [u8s, List.map_drop, List.map_take] using h4
            have HK8 : Hid (∀ z ∈ (B.take T).drop a, z < 256) := fun z hzm => HB.out z (List.mem_of_mem_take (List.mem_of_mem_drop hzm))
            clear h4
            go_wp2_with fail
            refine (crc_check _ _ w4 HT.out HR4.out HK8.out).mono ?_
            rintro en w5 ⟨rfl, hBel⟩
            have HB5 := Lib.hid hBel
            have HR5 := Lib.hid (HR.out.below hBel)
            clear hBel HR4 HK8 HR
            cases hk : isCrc ((B.take T).drop a) with
            | false =>
              rw [hk] at HO
              simp only [Bool.false_eq_true, if_false] at HO
              clear hk
              go_wp2_with fail
              go_ret3
              exact ⟨by rw [HO.out]; rfl, HB5.out⟩
            | true =>
              rw [hk] at HO
              simp only [if_true] at HO
              clear hk
              go_wp2_with fail
              go_ret3
              refine ⟨?_, HB5.out⟩
              rw [HO.out]
              show ∃ p c, _ ∧ _
              rw [HXl.out]
              exact ⟨_, _, rfl, HR5.out⟩
    · have HO := Lib.hid (outSection_other hget hne)
      have hne' : ¬ ((B[a] : Nat) : Int) = (id : Int) := by omega
      clear hget
      generalize B[a] = y at *
      go_enter Tryd.func54, Tryd.ntmps54
      go_wp2_with fail
      refine HG0.out.mono ?_
      rintro en w1 ⟨rfl, rfl⟩
      go_wp2_with fail
      go_ret3
      exact ⟨by rw [HO.out]; rfl, Below.refl _ _⟩
end Go.Proofs.YtlgphgipfjlbfaaDoor

end

section
/- Layer 4: the closures of Take and Section; 'read' of bytes. -/
set_option linter.unusedVariables false
namespace Go.Proofs.YtlgphgipfjlbfaaDoor
open Go Go.RowKit

set_option maxHeartbeats 1000000 in
theorem lit_take (v : Value) (B : List Nat) (a : Nat) (n : Int) (x : Nat) (w : World) (h : Rd w 1 v B.length (u8s B)) (ha : a ≤ B.length) (hz : B.length ≤ 140737488355000) (hn : -9223372036854775808 ≤ n ∧ n < 9223372036854775808)
    (hx : w.cell? ⟨x, 0, none⟩ = some (.int .i64 n)) :
    Calls Tryd.prog 65 #[v, .int .i64 (a : Int), .pointer (some ⟨x, 0, none⟩)] w fun en w' => TupS (outTake B a n) w w' en ∧ Below w.heap.size w w' := by
  obtain ⟨p, c, hv⟩ := h.shape
  subst hv
  by_cases hneg : n < 0
  · have HO : Hid (outTake B a n = .bad 2) := by show _ = _; rw [outTake, if_pos hneg]
    clear h
    go_enter Tryd.func65, Tryd.ntmps65
    go_wp2_with fail
    go_ret3
    exact ⟨by rw [HO.out]; exact ⟨_, rfl⟩, Below.refl _ _⟩
  · obtain ⟨m, rfl⟩ : ∃ m : Nat, n = (m : Int) := ⟨n.toNat, by omega⟩
    have hwm : IntKind.u64.wrap (m : Int) = (m : Int) := wrap_u64_small _ (by omega) (by omega)
    by_cases hgt : B.length - a < m
    · have HO : Hid (outTake B a (m : Int) = .bad 3) := by show _ = _; rw [outTake, if_neg hneg, if_pos (by omega)]
      have HE := Lib.hid (get_bytes_eof (.slice p B.length c) B a m w h ha hz hgt)
      clear h hn
      go_enter Tryd.func65, Tryd.ntmps65
      go_wp2_with fail
      refine HE.out.mono ?_
      rintro en w1 ⟨rfl, rfl⟩
      clear HE
      go_wp2_with fail
      refine (bytes_clone _ 0 [] w1 (Rd.nil w1 1) (by simp) (by omega)).mono ?_
      rintro en w2 ⟨r, rfl, hM⟩
      have HB := Lib.hid hM.2
      obtain ⟨p3, c3, hr⟩ := (Rd.of_owns hM.1).shape
      subst hr
      clear hM
      go_wp2_with fail
      go_ret3
      exact ⟨by rw [HO.out]; exact ⟨_, rfl⟩, HB.out⟩
    · have HO : Hid (outTake B a (m : Int) = .ok ((B.drop a).take m) (a + m)) := by show _ = _; rw [outTake, if_neg hneg, if_neg (by omega)]; rfl
      have HE := Lib.hid (get_bytes_ok (.slice p B.length c) B a m w h ha hz hgt)
      have HXl : Hid (((B.drop a).take m).length = m) := by show _ = _; rw [List.length_take, List.length_drop]; omega
      have HL : Hid (m ≤ 140737488355328) := by show _ ≤ _; omega
      obtain ⟨A, hA⟩ : ∃ A, a + m = A := ⟨_, rfl⟩
      rw [hA] at HO HE
      clear h hn hA
      go_enter Tryd.func65, Tryd.ntmps65
      go_wp2_with fail
      refine HE.out.mono ?_
      rintro en w1 ⟨⟨p2, c2, rfl, hR⟩, rfl⟩
      have HR := Lib.hid hR
      clear HE hR
      go_wp2_with fail
      refine (bytes_clone _ m _ w1 HR.out (u8s_oneCell _) HL.out).mono ?_
      rintro en w2 ⟨r, rfl, hM⟩
      have HB := Lib.hid hM.2
      obtain ⟨p3, c3, hr⟩ := (Rd.of_owns hM.1).shape
      subst hr
      have HM := Lib.hid hM.1
      clear hM HR
      go_wp2_with fail
      go_ret3
      refine ⟨?_, HB.out⟩
      rw [HO.out]
      show ∃ p c, _ ∧ _
      rw [HXl.out]
      exact ⟨_, _, rfl, HM.out⟩

set_option maxHeartbeats 1000000 in
theorem lit_section (v : Value) (B : List Nat) (a id : Nat) (x : Nat) (w : World) (hT : Tab w) (h : Rd w 1 v B.length (u8s B)) (hB : ∀ c ∈ B, c < 256) (ha : a ≤ B.length) (hz : B.length ≤ 140737488355000) (hid : id < 256)
    (hx : w.cell? ⟨x, 0, none⟩ = some (.int .u8 (id : Int))) :
    Calls Tryd.prog 53 #[v, .int .i64 (a : Int), .pointer (some ⟨x, 0, none⟩)] w fun en w' => TupS (outSection B a id) w w' en ∧ Below w.heap.size w w' := by
  have HG := Lib.hid (get_section v B a id w hT h hB ha hz hid)
  have HLen : Hid (∀ l b, outSection B a id = .ok l b → l.length ≤ 140737488355328) := fun l b he => by
    by_cases hla : B.length ≤ a
    · rw [outSection_none hla] at he; cases he
    · have hget : B[a]? = some B[a] := List.getElem?_eq_getElem (by omega)
      by_cases hne : B[a] = id
      · rw [hne] at hget
        rcases outSection_cases hB hget with ⟨e, _, _, ho⟩ | ⟨x, to, _, _, _, _, ho⟩
        · rw [ho] at he; cases he
        · rw [ho] at he
          split at he
          · cases he
          · split at he
            · simp only [Out.ok.injEq] at he
              rw [← he.1, List.length_take, List.length_drop]; omega
            · cases he
      · rw [outSection_other hget hne] at he; cases he
  obtain ⟨p, c, hv⟩ := h.shape
  subst hv
  clear h hB hT
  go_enter Tryd.func53, Tryd.ntmps53
  go_wp2_with fail
  refine HG.out.mono ?_
  rintro en w1 ⟨hR, hBel⟩
  have HB1 := Lib.hid hBel
  clear hBel HG
  cases ho : outSection B a id with
  | bad e =>
    rw [ho] at hR
    unfold TupR at hR
    subst hR
    have HO := Lib.hid ho
    clear HLen ho
    go_wp2_with fail
    refine (bytes_clone _ 0 [] w1 (Rd.nil w1 1) (by simp) (by omega)).mono ?_
    rintro en w2 ⟨r, rfl, hM⟩
    have HB := Lib.hid (HB1.out.trans (hM.2.mono HB1.out.size))
    obtain ⟨p3, c3, hr⟩ := (Rd.of_owns hM.1).shape
    subst hr
    clear hM
    go_wp2_with fail
    go_ret3
    exact ⟨by rw [HO.out]; exact ⟨_, rfl⟩, HB.out⟩
  | ok l b =>
    have HL := Lib.hid (HLen.out l b ho)
    have HO := Lib.hid ho
    rw [ho] at hR
    obtain ⟨p2, c2, rfl, hR2⟩ := hR
    have HR := Lib.hid hR2
    clear hR2 HLen ho
    go_wp2_with fail
    refine (bytes_clone _ l.length _ w1 HR.out (u8s_oneCell _) HL.out).mono ?_
    rintro en w2 ⟨r, rfl, hM⟩
    have HB := Lib.hid (HB1.out.trans (hM.2.mono HB1.out.size))
    obtain ⟨p3, c3, hr⟩ := (Rd.of_owns hM.1).shape
    subst hr
    have HM := Lib.hid (owns_rebase hM.1 (base' := w.heap.size) (fun k hk => by have := (hM.1.lt k hk).1; have := HB1.out.size; omega))
    clear hM HR
    go_wp2_with fail
    go_ret3
    exact ⟨by rw [HO.out]; exact ⟨_, _, rfl, HM.out⟩, HB.out⟩

set_option maxHeartbeats 2000000 in
/-- 'read' of bytes, over whatever closure. -/
theorem read_slice (F : FuncId) (hcf : ∀ (args : Array Value) (w : World), (callFunc F args).run Tryd.prog w = .ok (.enter F args) w) (x : Nat) (o : Out (List Nat)) (ho : ∀ e, o = .bad e → e ≠ 0) (q : Nat) (v : Value) (B : List Nat) (a : Nat) (w : World) (h : RRd w q v B a 0)
    (hget : ∀ w', Below w.heap.size w w' → Calls Tryd.prog F #[v, .int .i64 (a : Int), .pointer (some ⟨x, 0, none⟩)] w' fun en w'' => TupS o w' w'' en ∧ Below w'.heap.size w' w'') :
    Calls Tryd.prog 52 #[.pointer (some ⟨q, 0, none⟩), .func (.func F) #[] #[.pointer (some ⟨x, 0, none⟩)]] w fun en w' => Mods (fun k => k = q) w w' ∧ GotS o w w' (fun b e => RRd w' q v B b e) a en := by
  have HE := Lib.hid (rd_err q v B a 0 w h)
  have H := Lib.hid h
  have HG := Lib.hid hget
  have HC : Hid (∀ w', Below w.heap.size w w' → w'.cell? ⟨q, 0, none⟩ = some v ∧ w'.cell? ⟨q, 1, none⟩ = some (.int .i64 (a : Int)) ∧ w'.cell? ⟨q, 2, none⟩ = some (.int .i64 0)) := fun w' hb => by
    obtain ⟨e0, e1, e2, _, _⟩ := (H.out.below hb).cells
    exact ⟨e0, e1, e2⟩
  obtain ⟨p, c, hv⟩ := h.rd.shape
  subst hv
  clear h hget
  go_enter Tryd.func52, Tryd.ntmps52
  go_wp2_with fail
  refine HE.out.mono ?_
  rintro en w1 ⟨rfl, rfl⟩
  clear HE
  go_wp2_with fail
  refine wp_region_takeH (fun w' => Below w1.heap.size w1 w') [9] [0, 1, 2, 3, 4, 5, 6, 7, 8, 9, 10, 11, 12, 13, 14, 15, 16] (by kernel_rfl) (by kernel_rfl) (by kernel_rfl) ?_ ?_ ?_
  · intro c a a' w hd h; exact ⟨hd ▸ h.1, h.2⟩
  · exact ⟨rfl, rfl, rfl, Nat.le_refl _, fun _ _ => rfl⟩
  simp only [taken, List.map_cons, List.map_nil, List.getElem?_cons_succ, List.getElem?_cons_zero, Option.getD_some]
  repeat (first
        | (refine takeH_skip rfl ?_; simp only [Act.put, List.setIfInBounds_toArray, List.set_cons_succ, List.set_cons_zero])
        | (refine takeH_blind rfl rfl ?_; apply Exists.intro; refine ⟨fun w => ?_, ?_⟩; (go_simp; try with_reducible rfl); simp only [Act.put, List.setIfInBounds_toArray, List.set_cons_succ, List.set_cons_zero])
        | (refine takeH_reads rfl rfl ?_; apply Exists.intro; refine ⟨fun w' hS => ?_, ?_⟩; (obtain ⟨d0, d1, d2⟩ := HC.out w' hS; go_simp; try with_reducible rfl); simp only [Act.put, List.setIfInBounds_toArray, List.set_cons_succ, List.set_cons_zero]))
  refine takeH_call rfl rfl (fun K hK => ?_)
  go_wp2_with fail
  have HB1 : Hid (Below w1.heap.size w1 w1.drew) := ⟨rfl, rfl, rfl, Nat.le_refl _, fun _ _ => rfl⟩
  refine (HG.out _ HB1.out).mono ?_
  rintro en w2 ⟨hR, hBel⟩
  have HB2 : Hid (Below w1.heap.size w1 w2) := HB1.out.trans hBel
  have H2 := Lib.hid (H.out.below HB2.out)
  have HM2 : Hid (Mods (fun k => k = q) w1 w2) := Mods.of_below HB2.out _
  clear hBel HG HB1
  cases o with
  | bad e =>
    have he : e ≠ 0 := ho e rfl
    have heb : ((e : Int) == 0) = false := by rw [beq_eq_false_iff_ne]; omega
    obtain ⟨r, rfl⟩ := hR
    refine hK _ _ HB2.out ?_
    clear hK K
    repeat (first
        | (refine takeH_skip rfl ?_; simp only [Act.put, List.setIfInBounds_toArray, List.set_cons_succ, List.set_cons_zero])
        | (refine takeH_blind rfl rfl ?_; apply Exists.intro; refine ⟨fun w => ?_, ?_⟩; (go_simp; try with_reducible rfl); simp only [Act.put, List.setIfInBounds_toArray, List.set_cons_succ, List.set_cons_zero])
        | (refine takeH_reads rfl rfl ?_; apply Exists.intro; refine ⟨fun w' hS => ?_, ?_⟩; (obtain ⟨d0, d1, d2⟩ := HC.out w' hS; go_simp; try with_reducible rfl); simp only [Act.put, List.setIfInBounds_toArray, List.set_cons_succ, List.set_cons_zero]))
    refine takeH_nil ?_
    clear HC
    go_wp2_with fail
    refine (rd_fail q _ B a 0 (e : Int) _ H2.out).mono ?_
    rintro en w3 ⟨rfl, hR, hm⟩
    rw [if_pos rfl] at hR
    have HM := Lib.hid (HM2.out.trans hm (fun _ _ e => e))
    have HR := Lib.hid hR
    clear hR hm
    go_wp2_with fail
    go_ret
    exact ⟨HM.out, rfl, HR.out⟩
  | ok l b =>
    obtain ⟨p2, c2, rfl, hO⟩ := hR
    have HO := Lib.hid hO
    refine hK _ _ HB2.out ?_
    clear hK K hO
    repeat (first
        | (refine takeH_skip rfl ?_; simp only [Act.put, List.setIfInBounds_toArray, List.set_cons_succ, List.set_cons_zero])
        | (refine takeH_blind rfl rfl ?_; apply Exists.intro; refine ⟨fun w => ?_, ?_⟩; (go_simp; try with_reducible rfl); simp only [Act.put, List.setIfInBounds_toArray, List.set_cons_succ, List.set_cons_zero])
        | (refine takeH_reads rfl rfl ?_; apply Exists.intro; refine ⟨fun w' hS => ?_, ?_⟩; (obtain ⟨d0, d1, d2⟩ := HC.out w' hS; go_simp; try with_reducible rfl); simp only [Act.put, List.setIfInBounds_toArray, List.set_cons_succ, List.set_cons_zero]))
    refine takeH_nil ?_
    clear HC
    obtain ⟨m0, m1, m2, f1, f2⟩ := H2.out.cells
    have HS := Lib.hid (H2.out.setAt b)
    have HSM : Hid (Mods (fun k => k = q) w1 (w2.setCell ⟨q, 1, none⟩ (.int .i64 (b : Int)))) := HM2.out.trans (mods_set _ q 1 _) (fun _ _ e => e)
    have HOw : Hid ((w2.setCell ⟨q, 1, none⟩ (.int .i64 (b : Int))).ownsRow w1.heap.size 5 1 (.slice p2 l.length c2) l.length (u8s l)) := (mods_set w2 q 1 _).owns HO.out (fun k hk e => by have h1 := (HO.out.lt k hk).1; have h2 := H.out.blk.lt; have h3 : w1.drew.heap.size = w1.heap.size := rfl; omega)
    go_wp2_with fail
    go_ret
    exact ⟨HSM.out, ⟨_, rfl, HOw.out⟩, HS.out⟩

theorem enter_take (args : Array Value) (w : World) : (callFunc 65 args).run Tryd.prog w = .ok (.enter 65 args) w := rfl
theorem enter_section (args : Array Value) (w : World) : (callFunc 53 args).run Tryd.prog w = .ok (.enter 53 args) w := rfl
end Go.Proofs.YtlgphgipfjlbfaaDoor

end

section
/- Layer 4: read of bytes, with an error; of nil. -/
set_option linter.unusedVariables false
namespace Go.Proofs.YtlgphgipfjlbfaaDoor
open Go Go.RowKit

theorem read_slice_err (g : Value) (q : Nat) (v : Value) (B : List Nat) (a : Nat) (e : Int) (he : e ≠ 0) (w : World) (h : RRd w q v B a e) :
    Calls Tryd.prog 52 #[.pointer (some ⟨q, 0, none⟩), g] w fun en w' => en = .returned (.slice none 0 0) ∧ w' = w := by
  have HE := Lib.hid (rd_err q v B a e w h)
  have heb : (e == 0) = false := by rw [beq_eq_false_iff_ne]; exact he
  clear h
  go_enter Tryd.func52, Tryd.ntmps52
  go_wp2_with fail
  refine HE.out.mono ?_
  rintro en w1 ⟨rfl, rfl⟩
  go_wp2_with fail
  go_ret
  exact ⟨rfl, rfl⟩

theorem read_slice_nil (g : Value) (w : World) :
    Calls Tryd.prog 52 #[.pointer none, g] w fun en w' => en = .returned (.slice none 0 0) ∧ w' = w := by
  have HE := Lib.hid (nil_err w)
  go_enter Tryd.func52, Tryd.ntmps52
  go_wp2_with fail
  refine HE.out.mono ?_
  rintro en w1 ⟨rfl, rfl⟩
  go_wp2_with fail
  go_ret
  exact ⟨rfl, rfl⟩
end Go.Proofs.YtlgphgipfjlbfaaDoor

end

section
/- Layer 4: Section. -/
set_option linter.unusedVariables false
namespace Go.Proofs.YtlgphgipfjlbfaaDoor
open Go Go.RowKit

set_option maxHeartbeats 1000000 in
theorem rd_section (q : Nat) (v : Value) (B : List Nat) (a : Nat) (id : Nat) (w : World) (hT : Tab w) (hid : id < 256) (h : RRd w q v B a 0) (hB : ∀ c ∈ B, c < 256) (ha : a ≤ B.length) (hz : B.length ≤ 140737488355000) :
    Calls Tryd.prog 43 #[.pointer (some ⟨q, 0, none⟩), .int .u8 (id : Int)] w fun en w' => Mods (fun k => k = q) w w' ∧ GotS (outSection B a id) w w' (fun b e => RRd w' q v B b e) a en := by
  have HB0 : Hid (Below w.heap.size w (w.alloc (.cells #[.int .u8 (id : Int)] 5))) := (Below.refl _ _).alloc (Nat.le_refl _) _
  have HR0 := Lib.hid (h.below HB0.out)
  have hsz : (w.alloc (.cells #[.int .u8 (id : Int)] 5)).heap.size = w.heap.size + 1 := by simp
  have HC : Hid ((w.alloc (.cells #[.int .u8 (id : Int)] 5)).cell? ⟨w.heap.size, 0, none⟩ = some (.int .u8 (id : Int))) := (Blk.new w _ _).cell 0
  have HG := Lib.hid (read_slice _ enter_section w.heap.size (outSection B a id) (fun _ => outSection_ne) q v B a _ HR0.out (fun w' hb => lit_section v B a id w.heap.size w' ((hT.below HB0.out (Nat.le_refl _)).below hb (Nat.le_refl _)) (HR0.out.below hb).rd hB ha hz hid ((hb.cell (by rw [hsz]; exact Nat.lt_succ_self _)).trans HC.out)))
  have HM0 : Hid (Mods (fun k => k = q) w (w.alloc (.cells #[.int .u8 (id : Int)] 5))) := Mods.of_below HB0.out _
  have HS0 := Lib.hid hsz
  clear h hB HC hsz hT
  cases ho : outSection B a id with
  | bad e =>
    rw [ho] at HG
    clear ho
    go_enter Tryd.func43, Tryd.ntmps43
    go_wp2_with fail
    refine HG.out.mono ?_
    rintro en w1 ⟨hM, rfl, hR⟩
    have HM := Lib.hid (HM0.out.trans hM (fun _ _ e => e))
    have HR := Lib.hid hR
    clear hM hR HG
    go_wp2_with fail
    go_ret
    exact ⟨HM.out, rfl, HR.out⟩
  | ok y b =>
    rw [ho] at HG
    clear ho
    go_enter Tryd.func43, Tryd.ntmps43
    go_wp2_with fail
    refine HG.out.mono ?_
    rintro en w1 ⟨hM, ⟨r, rfl, hO⟩, hR⟩
    have HM := Lib.hid (HM0.out.trans hM (fun _ _ e => e))
    have HR := Lib.hid hR
    have HO := Lib.hid (owns_rebase hO (base' := w.heap.size) (fun k hk => by have := (hO.lt k hk).1; have := HS0.out; omega))
    obtain ⟨p3, c3, hr⟩ := (Rd.of_owns hO).shape
    subst hr
    clear hM hR HG hO
    go_wp2_with fail
    go_ret
    exact ⟨HM.out, ⟨_, rfl, HO.out⟩, HR.out⟩

theorem rd_section_err (q : Nat) (v : Value) (B : List Nat) (a : Nat) (id : Nat) (e : Int) (he : e ≠ 0) (w : World) (h : RRd w q v B a e) :
    Calls Tryd.prog 43 #[.pointer (some ⟨q, 0, none⟩), .int .u8 (id : Int)] w fun en w' => en = .returned (.slice none 0 0) ∧ Below w.heap.size w w' := by
  have HB0 : Hid (Below w.heap.size w (w.alloc (.cells #[.int .u8 (id : Int)] 5))) := (Below.refl _ _).alloc (Nat.le_refl _) _
  have HG := Lib.hid (read_slice_err (.func (.func 53) #[] #[.pointer (some ⟨w.heap.size, 0, none⟩)]) q v B a e he _ (h.below HB0.out))
  clear h
  go_enter Tryd.func43, Tryd.ntmps43
  go_wp2_with fail
  refine HG.out.mono ?_
  rintro en w1 ⟨rfl, rfl⟩
  go_wp2_with fail
  go_ret
  exact ⟨rfl, HB0.out⟩

theorem nil_section (id : Nat) (w : World) : Calls Tryd.prog 43 #[.pointer none, .int .u8 (id : Int)] w fun en w' => en = .returned (.slice none 0 0) ∧ Below w.heap.size w w' := by
  have HB0 : Hid (Below w.heap.size w (w.alloc (.cells #[.int .u8 (id : Int)] 5))) := (Below.refl _ _).alloc (Nat.le_refl _) _
  have HG := Lib.hid (read_slice_nil (.func (.func 53) #[] #[.pointer (some ⟨w.heap.size, 0, none⟩)]) (w.alloc (.cells #[.int .u8 (id : Int)] 5)))
  go_enter Tryd.func43, Tryd.ntmps43
  go_wp2_with fail
  refine HG.out.mono ?_
  rintro en w1 ⟨rfl, rfl⟩
  go_wp2_with fail
  go_ret
  exact ⟨rfl, HB0.out⟩
end Go.Proofs.YtlgphgipfjlbfaaDoor

end

section
/- Layer 4: Take. -/
set_option linter.unusedVariables false
namespace Go.Proofs.YtlgphgipfjlbfaaDoor
open Go Go.RowKit

set_option maxHeartbeats 1000000 in
theorem rd_take (q : Nat) (v : Value) (B : List Nat) (a : Nat) (n : Int) (w : World) (hn : -9223372036854775808 ≤ n ∧ n < 9223372036854775808) (h : RRd w q v B a 0) (hB : ∀ c ∈ B, c < 256) (ha : a ≤ B.length) (hz : B.length ≤ 140737488355000) :
    Calls Tryd.prog 55 #[.pointer (some ⟨q, 0, none⟩), .int .i64 n] w fun en w' => Mods (fun k => k = q) w w' ∧ GotS (outTake B a n) w w' (fun b e => RRd w' q v B b e) a en := by
  have HB0 : Hid (Below w.heap.size w (w.alloc (.cells #[.int .i64 n] 3))) := (Below.refl _ _).alloc (Nat.le_refl _) _
  have HR0 := Lib.hid (h.below HB0.out)
  have hsz : (w.alloc (.cells #[.int .i64 n] 3)).heap.size = w.heap.size + 1 := by simp
  have HC : Hid ((w.alloc (.cells #[.int .i64 n] 3)).cell? ⟨w.heap.size, 0, none⟩ = some (.int .i64 n)) := (Blk.new w _ _).cell 0
  have HG := Lib.hid (read_slice _ enter_take w.heap.size (outTake B a n) (fun _ => outTake_ne) q v B a _ HR0.out (fun w' hb => lit_take v B a n w.heap.size w' (HR0.out.below hb).rd ha hz hn ((hb.cell (by rw [hsz]; exact Nat.lt_succ_self _)).trans HC.out)))
  have HM0 : Hid (Mods (fun k => k = q) w (w.alloc (.cells #[.int .i64 n] 3))) := Mods.of_below HB0.out _
  have HS0 := Lib.hid hsz
  clear h hB HC hsz
  cases ho : outTake B a n with
  | bad e =>
    rw [ho] at HG
    clear ho
    go_enter Tryd.func55, Tryd.ntmps55
    go_wp2_with fail
    refine HG.out.mono ?_
    rintro en w1 ⟨hM, rfl, hR⟩
    have HM := Lib.hid (HM0.out.trans hM (fun _ _ e => e))
    have HR := Lib.hid hR
    clear hM hR HG
    go_wp2_with fail
    go_ret
    exact ⟨HM.out, rfl, HR.out⟩
  | ok y b =>
    rw [ho] at HG
    clear ho
    go_enter Tryd.func55, Tryd.ntmps55
    go_wp2_with fail
    refine HG.out.mono ?_
    rintro en w1 ⟨hM, ⟨r, rfl, hO⟩, hR⟩
    have HM := Lib.hid (HM0.out.trans hM (fun _ _ e => e))
    have HR := Lib.hid hR
    have HO := Lib.hid (owns_rebase hO (base' := w.heap.size) (fun k hk => by have := (hO.lt k hk).1; have := HS0.out; omega))
    obtain ⟨p3, c3, hr⟩ := (Rd.of_owns hO).shape
    subst hr
    clear hM hR HG hO
    go_wp2_with fail
    go_ret
    exact ⟨HM.out, ⟨_, rfl, HO.out⟩, HR.out⟩

theorem rd_take_err (q : Nat) (v : Value) (B : List Nat) (a : Nat) (n : Int) (e : Int) (he : e ≠ 0) (w : World) (h : RRd w q v B a e) :
    Calls Tryd.prog 55 #[.pointer (some ⟨q, 0, none⟩), .int .i64 n] w fun en w' => en = .returned (.slice none 0 0) ∧ Below w.heap.size w w' := by
  have HB0 : Hid (Below w.heap.size w (w.alloc (.cells #[.int .i64 n] 3))) := (Below.refl _ _).alloc (Nat.le_refl _) _
  have HG := Lib.hid (read_slice_err (.func (.func 65) #[] #[.pointer (some ⟨w.heap.size, 0, none⟩)]) q v B a e he _ (h.below HB0.out))
  clear h
  go_enter Tryd.func55, Tryd.ntmps55
  go_wp2_with fail
  refine HG.out.mono ?_
  rintro en w1 ⟨rfl, rfl⟩
  go_wp2_with fail
  go_ret
  exact ⟨rfl, HB0.out⟩

theorem nil_take (n : Int) (w : World) : Calls Tryd.prog 55 #[.pointer none, .int .i64 n] w fun en w' => en = .returned (.slice none 0 0) ∧ Below w.heap.size w w' := by
  have HB0 : Hid (Below w.heap.size w (w.alloc (.cells #[.int .i64 n] 3))) := (Below.refl _ _).alloc (Nat.le_refl _) _
  have HG := Lib.hid (read_slice_nil (.func (.func 65) #[] #[.pointer (some ⟨w.heap.size, 0, none⟩)]) (w.alloc (.cells #[.int .i64 n] 3)))
  go_enter Tryd.func55, Tryd.ntmps55
  go_wp2_with fail
  refine HG.out.mono ?_
  rintro en w1 ⟨rfl, rfl⟩
  go_wp2_with fail
  go_ret
  exact ⟨rfl, HB0.out⟩
end Go.Proofs.YtlgphgipfjlbfaaDoor

end

section
/- Layer 4: where a read ends. No program in sight. -/
set_option linter.unusedVariables false
namespace Go.Proofs.YtlgphgipfjlbfaaDoor
open Go Go.RowKit

/-- Where a read ends. -/
def Ends {α : Type} (o : Out α) (n : Nat) : Prop := ∀ x b, o = .ok x b → b ≤ n

theorem ends_byte (B : List Nat) (a : Nat) : Ends (outByte B a) B.length := fun x b h => by
  rw [outByte] at h
  split at h
  · next hc =>
    simp only [Out.ok.injEq] at h
    have := (List.getElem?_eq_some_iff.1 hc).1
    omega
  · cases h

theorem ends_uint {B : List Nat} (hB : ∀ c ∈ B, c < 256) {a : Nat} (ha : a ≤ B.length) (most : Nat) : Ends (outUint B a most) B.length := fun x b h => by
  rcases outUint_cases hB ha most with ⟨e, _, _, ho⟩ | ⟨y, to, _, _, hto, _, ho⟩
  · rw [ho] at h; cases h
  · rw [ho] at h
    split at h
    · cases h
    · simp only [Out.ok.injEq] at h; omega

theorem ends_take (B : List Nat) {a : Nat} (ha : a ≤ B.length) (n : Int) : Ends (outTake B a n) B.length := fun x b h => by
  rw [outTake] at h
  split at h
  · cases h
  · split at h
    · cases h
    · simp only [Out.ok.injEq] at h; omega

theorem ends_string {B : List Nat} (hB : ∀ c ∈ B, c < 256) {a : Nat} (ha : a ≤ B.length) (n : Int) : Ends (outString B a n) B.length := fun x b h => by
  rcases outString_cases hB ha n with ⟨e, _, _, ho⟩ | ⟨y, to, _, _, hto, _, ho⟩
  · rw [ho] at h; cases h
  · rw [ho] at h
    split at h
    · cases h
    · split at h
      · cases h
      · simp only [Out.ok.injEq] at h; omega

theorem ends_section {B : List Nat} (hB : ∀ c ∈ B, c < 256) (a id : Nat) : Ends (outSection B a id) B.length := fun x b h => by
  by_cases hla : B.length ≤ a
  · rw [outSection_none hla] at h; cases h
  · have hget : B[a]? = some B[a] := List.getElem?_eq_getElem (by omega)
    by_cases hne : B[a] = id
    · rw [hne] at hget
      rcases outSection_cases hB hget with ⟨e, _, _, ho⟩ | ⟨y, to, _, _, _, _, ho⟩
      · rw [ho] at h; cases h
      · rw [ho] at h
        split at h
        · cases h
        · split at h
          · simp only [Out.ok.injEq] at h; omega
          · cases h
    · rw [outSection_other hget hne] at h; cases h

theorem below_drewN (w : World) (n : Nat) : Below w.heap.size w (w.drewN n) := ⟨rfl, rfl, rfl, Nat.le_refl _, fun _ _ => rfl⟩
end Go.Proofs.YtlgphgipfjlbfaaDoor

end

section
/- Layer 3: the table, as it is kept. (Cut from XIface04.) -/
set_option linter.unusedVariables false
namespace Go.Proofs.YtlgphgipfjlbfaaDoor
open Go Go.RowKit


theorem Tab.low {w : World} (h : Tab w) : 0 + 1 ≤ w.heap.size := World.block_lt_of_cell? w _ (h 0 (by decide))

theorem Tab.mods {S : Nat → Prop} {w w' : World} (h : Tab w) (hm : Mods S w w') (hs : ∀ k, k < 0 + 1 → ¬ S k) : Tab w' := fun i hi => hm.cell (h i hi) (hs _ (Nat.lt_succ_self _))
end Go.Proofs.YtlgphgipfjlbfaaDoor

end

section
/- Layer 16: the program's reader as layer 16 uses it, also after an error: Byte, Take, Section, Fail; marks. -/
set_option linter.unusedVariables false
set_option maxRecDepth 20000
namespace Go.Proofs.YtlgphgipfjlbfaaDoor
open Go Go.RowKit

theorem litE_snoc (m : Nat) : ∀ (B M : List Nat), litE B (M ++ [m]) = if litE B M = 0 then (match B[M.length]? with | none => 3 | some c => if c = m then 0 else 10) else litE B M
  | [], [] => rfl
  | c :: B, [] => by
    have h0 : ∀ b : List Nat, litE b [] = 0 := fun b => by cases b <;> rfl
    simp only [List.nil_append, litE, h0, List.length_nil, List.getElem?_cons_zero, if_true]
  | [], d :: s => by simp [litE]
  | c :: B, d :: s => by
    rw [List.cons_append, litE, litE]
    split
    · rw [litE_snoc m B s, List.length_cons, List.getElem?_cons_succ]
    · rfl
/-- A mark that is read. -/
def markO (B : List Nat) (a : Nat) (M : List Nat) : Out Unit := if litE (B.drop a) M = 0 then .ok () (a + M.length) else .bad (litE (B.drop a) M)
theorem head_mark (B : List Nat) : headO B = markO B 0 headL := by rw [headO, markO, List.drop_zero]; rfl
theorem tail_mark (B : List Nat) (a : Nat) : tailO B a = markO B a tailL := rfl

/-- The program's reader at block q, with its table beside it. -/
structure LyR (w : World) (q : Nat) (v : Value) (B : List Nat) (a e : Nat) : Prop where
  rr : RRd w q v B a (e : Int)
  at_ : a ≤ B.length
  tab : Tab w
  far : 0 + 1 ≤ q
theorem LyR.mods {S : Nat → Prop} {w w' : World} {q : Nat} {v : Value} {B : List Nat} {a e : Nat} (h : LyR w q v B a e) (hm : Mods S w w') (hq : ∀ k, k ≤ q → ¬ S k) (hv : B ≠ [] → ∀ k, v.ownBlock = some k → ¬ S k) : LyR w' q v B a e :=
  ⟨h.rr.mods' hm (hq q (Nat.le_refl _)) hv, h.at_, h.tab.mods hm (fun k hk => hq k (by have := h.far; omega)), h.far⟩
theorem LyR.below {w w' : World} {q : Nat} {v : Value} {B : List Nat} {a e : Nat} (h : LyR w q v B a e) (hb : Below w.heap.size w w') : LyR w' q v B a e :=
  h.mods (Mods.of_below hb (fun _ => False)) (fun _ _ h => h) (fun _ _ _ h => h)
theorem LyR.next {w w' : World} {q : Nat} {v : Value} {B : List Nat} {a e a' e' : Nat} (h : LyR w q v B a e) (hm : Mods (fun k => k = q) w w') (hr : RRd w' q v B a' (e' : Int)) (ha : a' ≤ B.length) : LyR w' q v B a' e' :=
  ⟨hr, ha, h.tab.mods hm (fun k hk e => by have := h.far; omega), h.far⟩

section
variable (q : Nat) (v : Value) (B : List Nat) (a e : Nat) (w : World) (h : LyR w q v B a e) (hz : B.length ≤ 140737488355000)
include h

theorem ly_fail (x : Nat) :
    Calls Tryd.prog 51 #[.pointer (some ⟨q, 0, none⟩), .int .i64 (x : Int)] w fun en w' => en = .returned (.tuple #[]) ∧ LyR w' q v B a (if e = 0 then x else e) ∧ Mods (fun k => k = q) w w' := by
  refine (rd_fail q v B a (e : Int) (x : Int) w h.rr).mono ?_
  rintro en w' ⟨rfl, hR, hm⟩
  refine ⟨rfl, ?_, hm⟩
  by_cases he : e = 0
  · rw [if_pos (by omega)] at hR
    rw [if_pos he]
    exact h.next hm hR h.at_
  · rw [if_neg (by omega)] at hR
    rw [if_neg he]
    exact h.next hm hR h.at_

include hz
theorem ly_byte :
    Calls Tryd.prog 50 #[.pointer (some ⟨q, 0, none⟩)] w fun en w' => Mods (fun k => k = q) w w' ∧ ∃ c a' e' : Nat, en = .returned (.int .u8 (c : Int)) ∧ LyR w' q v B a' e' ∧ outE (outByte B a) e = fin c a' e' ∧ (e' ≠ 0 → c = 0) := by
  by_cases he : e = 0
  · subst he
    refine (rd_byte q v B a w h.rr h.at_ hz).mono ?_
    rintro en w' ⟨hm, hg⟩
    refine ⟨hm, ?_⟩
    cases ho : outByte B a with
    | ok c b =>
      rw [ho] at hg
      obtain ⟨rfl, hR⟩ := hg
      exact ⟨c, b, 0, rfl, h.next (e' := 0) hm hR (ends_byte B a c b ho), rfl, fun h => absurd rfl h⟩
    | bad k =>
      have hk := outByte_ne ho
      rw [ho] at hg
      obtain ⟨rfl, hR⟩ := hg
      exact ⟨0, a, k, rfl, h.next hm hR h.at_, by rw [outE_zero, fin, if_neg hk], fun _ => rfl⟩
  · refine (rd_byte_err q v B a (e : Int) (by omega) w h.rr).mono ?_
    rintro en w' ⟨rfl, rfl⟩
    exact ⟨Mods.refl _ _, 0, a, e, rfl, h, by rw [outE_ne _ he, fin, if_neg he], fun _ => rfl⟩

variable (hB : ∀ c ∈ B, c < 256)
include hB
theorem ly_take (n : Nat) (hn : n < 1000) :
    Calls Tryd.prog 55 #[.pointer (some ⟨q, 0, none⟩), .int .i64 (n : Int)] w fun en w' => Mods (fun k => k = q) w w' ∧ ∃ (d : List Nat) (r : Value) (a' e' : Nat), en = .returned r ∧ LyR w' q v B a' e' ∧ outE (outTake B a (n : Int)) e = fin d a' e' := by
  by_cases he : e = 0
  · subst he
    refine (rd_take q v B a (n : Int) w (by omega) h.rr hB h.at_ hz).mono ?_
    rintro en w' ⟨hm, hg⟩
    refine ⟨hm, ?_⟩
    cases ho : outTake B a (n : Int) with
    | ok d b =>
      rw [ho] at hg
      obtain ⟨⟨r, rfl, hO⟩, hR⟩ := hg
      exact ⟨d, r, b, 0, rfl, h.next (e' := 0) hm hR (ends_take B h.at_ (n : Int) d b ho), rfl⟩
    | bad k =>
      have hk := outTake_ne ho
      rw [ho] at hg
      obtain ⟨rfl, hR⟩ := hg
      exact ⟨[], _, a, k, rfl, h.next hm hR h.at_, by rw [outE_zero, fin, if_neg hk]⟩
  · refine (rd_take_err q v B a (n : Int) (e : Int) (by omega) w h.rr).mono ?_
    rintro en w' ⟨rfl, hb⟩
    exact ⟨Mods.of_below hb _, [], _, a, e, rfl, h.below hb, by rw [outE_ne _ he, fin, if_neg he]⟩

theorem ly_section (id : Nat) (hid : id < 256) :
    Calls Tryd.prog 43 #[.pointer (some ⟨q, 0, none⟩), .int .u8 (id : Int)] w fun en w' => Mods (fun k => k = q) w w' ∧ ∃ (d : List Nat) (r : Value) (a' e' : Nat), en = .returned r ∧ LyR w' q v B a' e' ∧ outE (outSection B a id) e = fin d a' e' ∧ w'.ownsRow w.heap.size 5 1 r d.length (u8s d) ∧ (∀ c ∈ d, c < 256) := by
  by_cases he : e = 0
  · subst he
    refine (rd_section q v B a id w h.tab hid h.rr hB h.at_ hz).mono ?_
    rintro en w' ⟨hm, hg⟩
    refine ⟨hm, ?_⟩
    cases ho : outSection B a id with
    | ok d b =>
      rw [ho] at hg
      obtain ⟨⟨r, rfl, hO⟩, hR⟩ := hg
      exact ⟨d, r, b, 0, rfl, h.next (e' := 0) hm hR (sec_inv hB ho).2.2.1, rfl, hO, (sec_inv hB ho).2.2.2.1⟩
    | bad k =>
      have hk := sec_bad hB ho
      rw [ho] at hg
      obtain ⟨rfl, hR⟩ := hg
      exact ⟨[], _, a, k, rfl, h.next hm hR h.at_, by rw [outE_zero, fin, if_neg hk], World.ownsRow_nil _ _ _ _, fun c hc => by cases hc⟩
  · refine (rd_section_err q v B a id (e : Int) (by omega) w h.rr).mono ?_
    rintro en w' ⟨rfl, hb⟩
    exact ⟨Mods.of_below hb _, [], _, a, e, rfl, h.below hb, by rw [outE_ne _ he, fin, if_neg he], World.ownsRow_nil _ _ _ _, fun c hc => by cases hc⟩
end

theorem mark_step {B M : List Nat} {a e x y i m c x' y' : Nat} (hi : i < M.length) (hm : M[i]? = some m) (hm0 : m ≠ 0) (h : outE (markO B a (M.take i)) e = fin () x y) (hb : outE (outByte B x) y = fin c x' y') (hc : y' ≠ 0 → c = 0) :
    outE (markO B a (M.take (i + 1))) e = fin () x' (if c = m then y' else if y' = 0 then 10 else y') := by
  have ht : M.take (i + 1) = M.take i ++ [m] := by rw [List.take_add_one, hm]; rfl
  have hl : (M.take i).length = i := by rw [List.length_take]; omega
  by_cases hy : y = 0
  · obtain ⟨rfl, h1⟩ := fin_ok h hy
    subst hy
    rw [outE_zero] at hb ⊢
    have h0 : litE (B.drop a) (M.take i) = 0 := by
      unfold markO at h1
      split at h1
      · assumption
      · cases h1
    rw [markO, if_pos h0, hl] at h1
    cases h1
    rw [markO, ht, litE_snoc, if_pos h0, hl, List.getElem?_drop, List.length_append, hl]
    rw [outByte] at hb
    cases hg : B[a + i]? with
    | none =>
      rw [hg] at hb
      simp only [fin] at hb
      split at hb
      · cases hb
      · next hn =>
        cases hb
        have := hc (by decide)
        subst this
        have hne : ¬ (0 = m) := fun e => hm0 e.symm
        simp [fin, hne]
    | some d =>
      rw [hg] at hb
      simp only [fin] at hb
      split at hb
      · next hn =>
        cases hb
        subst hn
        by_cases hd : c = m
        · simp [hd, fin, Nat.add_assoc]
        · simp [hd, fin]
      · cases hb
  · have hy' : outE (outByte B x) y = .bad y := outE_ne _ hy
    rw [hy'] at hb
    have hyy : y' = y := by
      unfold fin at hb
      split at hb
      · cases hb
      · cases hb; rfl
    subst hyy
    have := hc hy
    subst this
    rw [if_neg (fun e => hm0 e.symm), if_neg hy, fin, if_neg hy]
    rcases fin_bad h hy with ⟨rfl, h1⟩ | ⟨h1, rfl⟩
    · rw [outE_zero]
      have h0 : litE (B.drop a) (M.take i) ≠ 0 := fun e => by rw [markO, if_pos e] at h1; cases h1
      rw [markO, if_neg h0] at h1
      rw [markO, ht, litE_snoc, if_neg h0, if_neg h0]
      exact h1
    · rw [outE_ne _ h1]
end Go.Proofs.YtlgphgipfjlbfaaDoor

end

section
/- A region that ends in no panic. No program in sight. -/
namespace Go.Proofs.YtlgphgipfjlbfaaDoor
open Go Go.RowKit

/-- A stretch that is left in one way alone. -/
theorem wp_normal {P : Program} {c : Code} {Q : Exit → Act → World → Prop} {a : Act} {w : World} (h : c.wp P (fun e a w => e = .normal ∧ Q .normal a w) a w) : c.wp P Q a w := wp_mono h (fun _ _ _ h => h.1 ▸ h.2)
end Go.Proofs.YtlgphgipfjlbfaaDoor

end

section
/- Variables of three cells. No program in sight. -/
namespace Go.Proofs.YtlgphgipfjlbfaaDoor
open Go Go.RowKit

/-- The facts of a variable of three cells that a walk wants before it stores into it. -/
theorem Blk.three {w : World} {g : Nat} {a b c : Value} (h : Blk w g [a, b, c]) : (w.cell? ⟨g, 0, none⟩ = some a ∧ w.cell? ⟨g, 1, none⟩ = some b ∧ w.cell? ⟨g, 2, none⟩ = some c) ∧ (w.frozen? ⟨g, 0, none⟩ = false ∧ w.frozen? ⟨g, 1, none⟩ = false ∧ w.frozen? ⟨g, 2, none⟩ = false) :=
  ⟨⟨by rw [h.cell]; rfl, by rw [h.cell]; rfl, by rw [h.cell]; rfl⟩, h.free 0, h.free 1, h.free 2⟩

theorem Blk.set3 {w : World} {g : Nat} {a b c : Value} (h : Blk w g [a, b, c]) (x y z : Value) : Blk (((w.setCell ⟨g, 0, none⟩ x).setCell ⟨g, 1, none⟩ y).setCell ⟨g, 2, none⟩ z) g [x, y, z] := by
  simpa using ((h.set 0 x).set 1 y).set 2 z

theorem mods_set3 (w : World) (g : Nat) (x y z : Value) : Mods (fun k => k = g) w (((w.setCell ⟨g, 0, none⟩ x).setCell ⟨g, 1, none⟩ y).setCell ⟨g, 2, none⟩ z) :=
  ((Mods.set (fun k => k = g) w ⟨g, 0, none⟩ x (fun _ => rfl)).trans (Mods.set (fun k => k = g) _ ⟨g, 1, none⟩ y (fun _ => rfl)) (fun _ _ e => e)).trans (Mods.set (fun k => k = g) _ ⟨g, 2, none⟩ z (fun _ => rfl)) (fun _ _ e => e)
end Go.Proofs.YtlgphgipfjlbfaaDoor

end

section
/- Structs of numbers as values: a variable that holds one, loads, stores, results. No program in sight. -/
namespace Go.Proofs.YtlgphgipfjlbfaaDoor
open Go Go.RowKit

/-- A struct type t of n cells, whose zero value is made of zs. -/
structure Str (P : Program) (t : TypeId) (n : Nat) (zs : List Value) : Prop where
  ht : ∃ d, P.underlying t = some d ∧ manyCells d = true
  hi : ∃ i, P.info? t = some i ∧ i.zero = some (.agg zs.toArray) ∧ i.size = n
  hz : zs.length = n
theorem Str.mk' {P : Program} {t : TypeId} {n : Nat} {zs : List Value} {d : TypeDesc} (ht : P.underlying t = some d) (hd : manyCells d = true) (hi : (P.info? t).map (fun i => (i.zero, i.size)) = some (some (.agg zs.toArray), n)) (hz : zs.length = n) : Str P t n zs := by
  obtain ⟨i, h1, h2⟩ := Option.map_eq_some_iff.1 hi
  simp only [Prod.mk.injEq] at h2
  exact ⟨⟨d, ht, hd⟩, ⟨i, h1, h2.1, h2.2⟩, hz⟩

theorem Blk.rangeAt {w : World} {g : Nat} {cs : List Value} (h : Blk w g cs) : w.rangeAt g 0 cs := fun j v hv => by rw [Nat.zero_add, h.cell]; simpa using hv

section
variable {P : Program} {ops : Array Oper} {rest : List Oper} {o : Oper} {a : Act} {w : World} {Q : Exit → Act → World → Prop} {t : TypeId} {n : Nat} {zs : List Value}

/-- A new variable that holds the zero value. -/
theorem wpList_allocS (hA : Str P t n zs) (hg : o.guard = none) (ho : o.op = .alloc t)
    (h : ∀ w', Blk w' w.heap.size zs → Below w.heap.size w w' → w'.heap.size = w.heap.size + 1 → wpList P ops Q rest (a.put o.dst (.pointer (some ⟨w.heap.size, 0, none⟩))) w') : wpList P ops Q (o :: rest) a w := by
  obtain ⟨i, hi, hz, hs⟩ := hA.hi
  refine wpList_plain hg fun K hK => ?_
  have hzv : (zeroValue t).run P w = .ok (.agg zs.toArray) w := by simp [zeroValue, typeInfo, hi, hz]
  unfold Oper.wp execOp
  simp only [ho, Sem.run_bind, Instr.alloc, hzv, newVar, newRow, run_newObj_alloc, Sem.run_pure, Result.andThen_ok]
  exact hK _ _ (h _ (by simpa [Value.cells] using Blk.new w zs.toArray t) ((Below.refl _ _).alloc (Nat.le_refl _) _) (by simp))

/-- A struct loaded from wherever its cells lie. -/
theorem wpList_loadS (hA : Str P t n zs) (hgd : o.guard = none) (x : Operand) (ho : o.op = .load t x) (g m : Nat) (hx : a.eval x = .pointer (some ⟨g, m, none⟩)) (cs : List Value) (hb : w.rangeAt g m cs) (hl : cs.length = n)
    (h : wpList P ops Q rest (a.put o.dst (.agg cs.toArray)) w) : wpList P ops Q (o :: rest) a w := by
  obtain ⟨i, hi, _, hs⟩ := hA.hi
  obtain ⟨d, hu, hd⟩ := hA.ht
  exact wpList_load_mid hgd t x ho g m hx cs d hb hu (by cases d <;> simp_all [manyCells, TypeDesc.isRow]) (by rw [hi]; simp [hs, hl]) h

/-- A struct stored into a variable of its own. -/
theorem wpList_storeS (hA : Str P t n zs) (hgd : o.guard = none) (x y : Operand) (ho : o.op = .store t x y) (g : Nat) (hx : a.eval x = .pointer (some ⟨g, 0, none⟩)) (cs old : List Value) (hy : a.eval y = .agg cs.toArray)
    (hb : Blk w g old) (hold : old.length = n) (hl : cs.length = n) (h1 : ∀ u ∈ cs, u.oneCell' = true)
    (h : ∀ w', Blk w' g cs → Mods (fun k => k = g) w w' → w'.heap.size = w.heap.size → wpList P ops Q rest (a.put o.dst undef) w') : wpList P ops Q (o :: rest) a w := by
  obtain ⟨u, hg⟩ := hb
  obtain ⟨i, hi, _, hs⟩ := hA.hi
  refine wpList_store_row hgd t x y ho g cs.toArray hx hy u old.toArray hg (by rw [hi]; simp [hs, hl]) (by simp [hold, hl]) (by simpa using h1) ?_
  exact h _ ⟨u, setRow_heap w g _ _ u _ hg⟩ (mods_setRow w g _) (by simp)

/-- A result that lies in a variable. -/
theorem run_loadS (hA : Str P t n zs) (g : Nat) (cs : List Value) (hb : Blk w g cs) (hl : cs.length = n) : (loadVar t ⟨g, 0, none⟩).run P w = .ok (.agg cs.toArray) w := by
  obtain ⟨i, hi, _, hs⟩ := hA.hi
  obtain ⟨d, hu, hd⟩ := hA.ht
  exact run_loadVar_mid w g 0 t cs d hb.rangeAt hu (by cases d <;> simp_all [manyCells, TypeDesc.isRow]) (by rw [hi]; simp [hs, hl])
theorem resultsS (hA : Str P t n zs) {fn : Func} {p : Tmp} (h : fn.results = #[.cell p t]) (tmps : Array Value) (g : Nat) (hp : tmps.getD p undef = .pointer (some ⟨g, 0, none⟩)) (cs : List Value) (hb : Blk w g cs) (hl : cs.length = n) :
    (results fn tmps).run P w = .ok (.agg cs.toArray) w := by
  have hp' : tmps[p]?.getD undef = .pointer (some ⟨g, 0, none⟩) := by simpa using hp
  simp [results, h, hp', asAddr, run_loadS hA g cs hb hl]
theorem resultsS2 (hA : Str P t n zs) {fn : Func} {p u : Tmp} (h : fn.results = #[.cell p t, .tmp u]) (tmps : Array Value) (g : Nat) (hp : tmps.getD p undef = .pointer (some ⟨g, 0, none⟩)) (cs : List Value) (hb : Blk w g cs) (hl : cs.length = n) :
    (results fn tmps).run P w = .ok (.tuple #[.agg cs.toArray, tmps.getD u undef]) w := by
  have hp' : tmps[p]?.getD undef = .pointer (some ⟨g, 0, none⟩) := by simpa using hp
  simp [results, h, hp', asAddr, run_loadS hA g cs hb hl]
end
end Go.Proofs.YtlgphgipfjlbfaaDoor

end

section
/- Layer 16: the program's parse, pure: what its parts make together; the variables that it fills. -/
set_option linter.unusedVariables false
set_option maxRecDepth 20000
namespace Go.Proofs.YtlgphgipfjlbfaaDoor
open Go Go.RowKit

theorem outE_bind {α β : Type} {o : Out α} {e a' e' : Nat} {d : α} (f : α → Nat → Out β) (h : outE o e = fin d a' e') : outE (thenO o f) e = outE (f d a') e' := by
  by_cases h0 : e' = 0
  · obtain ⟨rfl, rfl⟩ := fin_ok h h0
    subst h0
    rfl
  · rcases fin_bad h h0 with ⟨rfl, rfl⟩ | ⟨h1, rfl⟩
    · rw [outE_ne _ h0]; rfl
    · rw [outE_ne _ h1, outE_ne _ h1]
theorem ly_total {B l : List Nat} {a1 e1 x e x5 y5 x6 e6 x7 e7 : Nat} {acc : List (List Nat × Nat)} {d : List Nat} (hd : outE (markO B 0 headL) 0 = fin () a1 e1) (hs : outE (secsF 0 5 x acc B) e = outE (secsF 4 1 a1 [] B) e1)
    (hc : outE (outSection B x 5) e = fin d x5 y5) (hl : e = 0 → l = acc.map Prod.snd) (hk : outE (crcO B x5) (if y5 = 0 then (if d = contents l then 0 else 13) else y5) = fin () x6 e6) (ht : outE (markO B x6 tailL) e6 = fin () x7 e7) :
    layF B = fin (acc.map Prod.fst, acc.map Prod.snd ++ [x]) x7 e7 ∧ (e7 = 0 → e = 0) := by
  have hs' : outE (secsF 4 1 a1 [] B) e1 = fin acc x e := by rw [← hs]; rfl
  have hto : outE (tocO d acc x5) y5 = fin () x5 (if y5 = 0 then (if d = contents l then 0 else 13) else y5) := by
    by_cases hy : y5 = 0
    · obtain ⟨he, _⟩ := fin_ok hc hy
      rw [if_pos hy, hy, outE_zero, tocO, hl he]
      split
      · simp [fin]
      · simp [fin]
    · rw [if_neg hy, outE_ne _ hy, fin, if_neg hy]
  constructor
  · have e0 : layF B = outE (layF B) 0 := rfl
    rw [e0, layF, head_mark, outE_bind _ hd, outE_bind _ hs', outE_bind _ hc, outE_bind _ hto, outE_bind _ hk]
    simp only [tail_mark]
    rw [outE_bind _ ht]
    rfl
  · intro h7
    have h6 := (fin_ok ht h7).1
    have h5 := (fin_ok hk h6).1
    have hy : y5 = 0 := by
      by_cases hy : y5 = 0
      · exact hy
      · rw [if_neg hy] at h5; exact h5
    exact (fin_ok hc hy).1
theorem ly_lay {B : List Nat} {S : List (List Nat)} {O : List Nat} {x7 e7 : Nat} (h : layF B = fin (S, O) x7 e7) : lay B = if e7 = 0 ∧ ¬ x7 < B.length then (S, O, 0) else (noSecs, noOffs, if e7 = 0 then 4 else e7) := by
  rw [lay, h, fin]
  by_cases h7 : e7 = 0
  · by_cases hx : x7 < B.length
    · simp [h7, hx]
    · simp [h7, hx]
  · simp [h7]

theorem strF : Str Tryd.prog 61 9 (nil4 ++ zero5) := Str.mk' Tryd.underlying61 rfl (by kernel_rfl) rfl
theorem strS : Str Tryd.prog 27 4 nil4 := Str.mk' Tryd.underlying27 rfl (by kernel_rfl) rfl
theorem strO : Str Tryd.prog 29 5 zero5 := Str.mk' Tryd.underlying29 rfl (by kernel_rfl) rfl

/-- The variables of parse: its result at block g, the file at the next. -/
structure LyF (w wr : World) (g : Nat) (vs : List Value) (az : List Nat) : Prop where
  b2 : Blk wr g (nil4 ++ zero5)
  bf : Blk wr (g + 1) (vs ++ natI az)
  bel : Below w.heap.size w wr
  low : w.heap.size ≤ g
  vl : vs.length = 4
  al : az.length = 5
  vo : ∀ u ∈ vs, u.oneCell' = true
  ab : ∀ x ∈ az, x < 9223372036854775808
theorem LyF.mods {S : Nat → Prop} {w wr w' : World} {g : Nat} {vs : List Value} {az : List Nat} (h : LyF w wr g vs az) (hm : Mods S wr w') (hS : ∀ k, S k → g + 2 ≤ k) : LyF w w' g vs az :=
  ⟨hm.blk h.b2 (fun e => by have := hS _ e; omega), hm.blk h.bf (fun e => by have := hS _ e; omega), h.bel.trans (hm.below h.bel.size (fun k hk e => by have := hS _ e; have := h.low; omega)), h.low, h.vl, h.al, h.vo, h.ab⟩
theorem LyF.below {w wr w' : World} {g : Nat} {vs : List Value} {az : List Nat} (h : LyF w wr g vs az) (hb : Below wr.heap.size wr w') : LyF w w' g vs az := h.mods (Mods.of_below hb (fun _ => False)) (fun _ h => h.elim)
theorem LyF.setO {w wr : World} {g : Nat} {vs : List Value} {az : List Nat} (h : LyF w wr g vs az) {i x : Nat} (hx : x < 9223372036854775808) : LyF w (wr.setCell ⟨g + 1, 4 + i, none⟩ (.int .i64 (x : Int))) g vs (az.set i x) := by
  have hm : Mods (fun k => k = g + 1) wr (wr.setCell ⟨g + 1, 4 + i, none⟩ (.int .i64 (x : Int))) := Mods.set _ _ _ _ (fun _ => rfl)
  have hb := h.bf.set (4 + i) (.int .i64 (x : Int))
  rw [List.set_append_right _ _ (by rw [h.vl]; omega), h.vl, Nat.add_sub_cancel_left, show (natI az).set i (.int .i64 (x : Int)) = natI (az.set i x) by simp [natI, List.map_set]] at hb
  refine ⟨hm.blk h.b2 (fun e => by omega), hb, h.bel.trans (hm.below h.bel.size (fun k hk e => by have := h.low; omega)), h.low, h.vl, by rw [List.length_set]; exact h.al, h.vo, fun y hy => ?_⟩
  rcases List.mem_or_eq_of_mem_set hy with hy | rfl
  · exact h.ab y hy
  · exact hx
theorem LyF.setS {w wr : World} {g : Nat} {vs : List Value} {az : List Nat} (h : LyF w wr g vs az) {i n c : Nat} {p : Option Addr} (hi : i < 4) : LyF w (wr.setCell ⟨g + 1, i, none⟩ (.slice p n c)) g (vs.set i (.slice p n c)) az := by
  have hm : Mods (fun k => k = g + 1) wr (wr.setCell ⟨g + 1, i, none⟩ (.slice p n c)) := Mods.set _ _ _ _ (fun _ => rfl)
  have hb := h.bf.set i (.slice p n c)
  rw [List.set_append_left _ _ (by rw [h.vl]; exact hi)] at hb
  refine ⟨hm.blk h.b2 (fun e => by omega), hb, h.bel.trans (hm.below h.bel.size (fun k hk e => by have := h.low; omega)), h.low, by rw [List.length_set]; exact h.vl, h.al, fun u hu => ?_, h.ab⟩
  rcases List.mem_or_eq_of_mem_set hu with hu | rfl
  · exact h.vo u hu
  · rfl
theorem LyF.cellO {w wr : World} {g : Nat} {vs : List Value} {az : List Nat} (h : LyF w wr g vs az) {i : Nat} (hi : i < 5) : ∃ x0 : Nat, wr.cell? ⟨g + 1, 4 + i, none⟩ = some (.int .i64 (x0 : Int)) ∧ wr.frozen? ⟨g + 1, 4 + i, none⟩ = false := by
  obtain ⟨x, hx⟩ : ∃ x, az[i]? = some x := ⟨_, List.getElem?_eq_getElem (by rw [h.al]; exact hi)⟩
  exact ⟨x, by rw [h.bf.cell, List.getElem?_append_right (by rw [h.vl]; omega), h.vl, Nat.add_sub_cancel_left, natI_get hx], h.bf.free _⟩
theorem LyF.cellS {w wr : World} {g : Nat} {vs : List Value} {az : List Nat} (h : LyF w wr g vs az) {i : Nat} (hi : i < 4) : ∃ u, wr.cell? ⟨g + 1, i, none⟩ = some u ∧ wr.frozen? ⟨g + 1, i, none⟩ = false := by
  obtain ⟨u, hu⟩ : ∃ u, vs[i]? = some u := ⟨_, List.getElem?_eq_getElem (by rw [h.vl]; exact hi)⟩
  exact ⟨u, by rw [h.bf.cell, List.getElem?_append_left (by rw [h.vl]; exact hi)]; exact hu, h.bf.free _⟩
theorem LyF.offs {w wr : World} {g : Nat} {vs : List Value} {az : List Nat} (h : LyF w wr g vs az) : Rd wr 1 (.slice (some ⟨g + 1, 4, none⟩) 4 5) (az.take 4).length (natI (az.take 4)) := by
  have hl : (az.take 4).length = 4 := by rw [List.length_take, h.al]; rfl
  rw [hl]
  refine ⟨_, _, rfl, by rw [natI_length, hl], by omega, by unfold maxLen; omega, (fun e => by cases e), fun ad e j u hu => ?_⟩
  cases e
  have e : (⟨g + 1, 4, none⟩ : Addr).add j = ⟨g + 1, 4 + j, none⟩ := by unfold Addr.add; split <;> simp_all
  rw [e, h.bf.cell, List.getElem?_append_right (by rw [h.vl]; omega), h.vl, Nat.add_sub_cancel_left]
  simp only [natI, List.map_take, List.getElem?_take] at hu
  split at hu
  · exact hu
  · cases hu
theorem LyR.set {w w' : World} {q k : Nat} {v : Value} {B : List Nat} {a e : Nat} (h : LyR w q v B a e) (hm : Mods (fun j => j = k) w w') (hq : k ≠ q) (ht : 0 + 1 ≤ k) (hv : B ≠ [] → ∀ j, v.ownBlock = some j → j ≠ k) : LyR w' q v B a e :=
  ⟨h.rr.mods' hm (fun e => hq e.symm) (fun hn j hj e => hv hn j hj e), h.at_, h.tab.mods hm (fun j hj e => by omega), h.far⟩
/-- What parse leaves. -/
def GotLy (w : World) (B : List Nat) (e : Ending) (w' : World) : Prop := ∃ vs, e = .returned (.tuple #[.agg (vs ++ natI (lay B).2.1).toArray, .int .i64 ((lay B).2.2 : Int)]) ∧ vs.length = 4 ∧ (lay B).2.1.length = 5 ∧ RdS w' vs (lay B).1 ∧ (∀ v ∈ vs, ∀ k, v.ownBlock = some k → w.heap.size ≤ k) ∧ Below w.heap.size w w'
end Go.Proofs.YtlgphgipfjlbfaaDoor

end

section
/- Layer 16: the program's marks. -/
set_option linter.unusedVariables false
set_option linter.unusedSimpArgs false
set_option maxRecDepth 20000
namespace Go.Proofs.YtlgphgipfjlbfaaDoor
open Go Go.RowKit

set_option maxHeartbeats 4000000 in
theorem ly_mark (s : ByteArray) (hs : s.size ≤ 100) (h0 : ∀ m ∈ numsOf s, m ≠ 0) (q : Nat) (v : Value) (B : List Nat) (a e : Nat) (w : World) (h : LyR w q v B a e) (hz : B.length ≤ 140737488355000) :
    Calls Tryd.prog 41 #[.pointer (some ⟨q, 0, none⟩), .string s] w fun en w' => en = .returned (.tuple #[]) ∧ Mods (fun k => k = q) w w' ∧ ∃ x y, LyR w' q v B x y ∧ outE (markO B a (numsOf s)) e = fin () x y := by
  have H := Lib.hid h; have HZ := Lib.hid hz; have H0 := Lib.hid h0
  have HSl : Hid ((numsOf s).length = s.size) := numsOf_length s
  have hsi : (s.size : Int) ≤ 100 := by omega
  have HM0 : Hid (outE (markO B a ((numsOf s).take 0)) e = fin () a e) := by
    show _ = _
    have hl : litE (B.drop a) [] = 0 := by cases B.drop a <;> rfl
    by_cases he : e = 0
    · subst he; simp [outE, fin, markO, hl]
    · rw [outE_ne _ he, fin, if_neg he]
  clear h hz h0 hs
  go_enter Tryd.func41, Tryd.ntmps41
  go_wp2_with fail
  go_loopw [7] (fun iv wr => ∃ (i x y : Nat), i ≤ s.size ∧ iv = .int .i64 (i : Int) ∧ Hid (LyR wr q v B x y) ∧ Hid (Mods (fun k => k = q) w wr) ∧ Hid (outE (markO B a ((numsOf s).take i)) e = fin () x y)) (fun iv _ => s.size - (intOf iv).toNat)
  case atStart => exact ⟨0, a, e, Nat.zero_le _, rfl, H.out, Mods.refl _ _, HM0.out⟩
  case round =>
    obtain ⟨i, x, y, hi, rfl, HR, HMd, HE⟩ := hrel
    clear HM0
    have him : (i : Int) ≤ 100 := by omega
    by_cases h1 : i < s.size
    · have h1' : (i : Int) < (s.size : Int) := by omega
      have hd : (numsOf s)[i]? = some ((s[i]'h1).toNat) := by
        rw [numsOf, List.getElem?_map, Array.getElem?_toList]
        have : s.data[i]? = some (s[i]'h1) := Array.getElem?_eq_getElem _
        rw [this]; rfl
      have hm0 := H0.out _ (List.mem_of_getElem? hd)
      have HSt := Lib.hid (fun (c x' y' : Nat) (hb : outE (outByte B x) y = fin c x' y') (hc : y' ≠ 0 → c = 0) => mark_step (M := numsOf s) (by rw [HSl.out]; exact h1) hd hm0 HE.out hb hc)
      clear hd hm0
      go_wp2_with fail
      refine wp_region_take [1] [0, 2, 3, 4, 1, 5] (by kernel_rfl) (by kernel_rfl) (by kernel_rfl) ?_ ?_
      · intro c a a' w hd h
        exact ⟨hd ▸ h.1, h.2⟩
      simp only [taken, List.map_cons, List.map_nil, List.getElem?_cons_succ, List.getElem?_cons_zero, Option.getD_some]
      repeat (first
        | (refine take_skip rfl ?_; simp only [Act.put, List.setIfInBounds_toArray, List.set_cons_succ, List.set_cons_zero])
        | (refine take_blind rfl rfl ?_; apply Exists.intro; refine ⟨fun w => ?_, ?_⟩; (go_simp; try with_reducible rfl); simp only [Act.put, List.setIfInBounds_toArray, List.set_cons_succ, List.set_cons_zero]))
      refine take_call rfl rfl (fun K hK => ?_)
      go_wp2_with fail
      refine (ly_byte q v B x y wr.drew (HR.out.below (Below.refl _ wr).drew) HZ.out).mono ?_
      rintro en w2 ⟨hm, c, x', y', rfl, hR2, ho, hc⟩
      have HR2 := Lib.hid hR2
      have HM2 : Hid (Mods (fun k => k = q) w w2) := (HMd.out.trans (Mods.drew (fun k => k = q) wr) (fun _ _ e => e)).trans hm (fun _ _ e => e)
      have HS2 := Lib.hid (HSt.out c x' y' ho hc)
      refine hK _ _ ?_
      clear hK K hR2 hm ho hc HSt HR HMd HE
      by_cases hcm : c = (s[i]'h1).toNat
      · have hb : ((c : Int) != (((s[i]'h1).toNat : Nat) : Int)) = false := by rw [hcm]; simp
        rw [if_pos hcm] at HS2
        clear hcm
        repeat (first
        | (refine take_skip rfl ?_; simp only [Act.put, List.setIfInBounds_toArray, List.set_cons_succ, List.set_cons_zero])
        | (refine take_blind rfl rfl ?_; apply Exists.intro; refine ⟨fun w => ?_, ?_⟩; (go_simp; try with_reducible rfl); simp only [Act.put, List.setIfInBounds_toArray, List.set_cons_succ, List.set_cons_zero]))
        refine take_nil ?_
        go_wp2_with fail
        go_round
        case rel => exact ⟨i + 1, x', y', by omega, by go_num, HR2.out, HM2.out, HS2.out⟩
        case measure => simp [intOf]; omega
      · have hb : ((c : Int) != (((s[i]'h1).toNat : Nat) : Int)) = true := by rw [bne_iff_ne]; omega
        rw [if_neg hcm] at HS2
        clear hcm
        repeat (first
        | (refine take_skip rfl ?_; simp only [Act.put, List.setIfInBounds_toArray, List.set_cons_succ, List.set_cons_zero])
        | (refine take_blind rfl rfl ?_; apply Exists.intro; refine ⟨fun w => ?_, ?_⟩; (go_simp; try with_reducible rfl); simp only [Act.put, List.setIfInBounds_toArray, List.set_cons_succ, List.set_cons_zero]))
        refine take_nil ?_
        go_wp2_with fail
        refine (ly_fail q v B x' y' w2 HR2.out 10).mono ?_
        rintro en w3 ⟨rfl, hR3, hm⟩
        have HR3 := Lib.hid hR3
        have HM3 : Hid (Mods (fun k => k = q) w w3) := HM2.out.trans hm (fun _ _ e => e)
        clear hR3 hm HR2 HM2
        obtain ⟨y3, hy3⟩ : ∃ y3, (if y' = 0 then 10 else y') = y3 := ⟨_, rfl⟩
        rw [hy3] at HR3 HS2
        clear hy3
        go_wp2_with fail
        go_round
        case rel => exact ⟨i + 1, x', y3, by omega, by go_num, HR3.out, HM3.out, HS2.out⟩
        case measure => simp [intOf]; omega
    · have h1' : ¬ (i : Int) < (s.size : Int) := by omega
      have HE2 : Hid (outE (markO B a (numsOf s)) e = fin () x y) := by
        show _ = _
        rw [← HE.out, List.take_of_length_le (by have := HSl.out; omega)]
      go_wp2_with fail
      go_end0
      exact ⟨rfl, HMd.out, x, y, HR.out, HE2.out⟩
end Go.Proofs.YtlgphgipfjlbfaaDoor

end
