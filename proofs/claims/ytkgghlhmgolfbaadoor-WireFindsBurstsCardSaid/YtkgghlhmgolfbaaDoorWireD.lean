/- Layer 4: the closures of Take and Section; 'read' of bytes. -/
import Derived.Test.YtkgghlhmgolfbaaDoorWireB
import Derived.Test.YtkgghlhmgolfbaaDoorWireC
import Derived.Test.YtkgghlhmgolfbaaDoorTakeR
set_option linter.unusedVariables false
namespace Go.Proofs.YtkgghlhmgolfbaaDoor
open Go Go.RowKit

set_option maxHeartbeats 1000000 in
theorem lit_take (v : Value) (B : List Nat) (a : Nat) (n : Int) (x : Nat) (w : World) (h : Rd w 1 v B.length (u8s B)) (ha : a ≤ B.length) (hz : B.length ≤ 140737488355000) (hn : -9223372036854775808 ≤ n ∧ n < 9223372036854775808)
    (hx : w.cell? ⟨x, 0, none⟩ = some (.int .i64 n)) :
    Calls Tryd.prog 51 #[v, .int .i64 (a : Int), .pointer (some ⟨x, 0, none⟩)] w fun en w' => TupS (outTake B a n) w w' en ∧ Below w.heap.size w w' := by
  obtain ⟨p, c, hv⟩ := h.shape
  subst hv
  by_cases hneg : n < 0
  · have HO : Hid (outTake B a n = .bad 2) := by show _ = _; rw [outTake, if_pos hneg]
    clear h
    go_enter Tryd.func51, Tryd.ntmps51
    go_wp2_with fail
    go_ret3
    exact ⟨by rw [HO.out]; exact ⟨_, rfl⟩, Below.refl _ _⟩
  · obtain ⟨m, rfl⟩ : ∃ m : Nat, n = (m : Int) := ⟨n.toNat, by omega⟩
    have hwm : IntKind.u64.wrap (m : Int) = (m : Int) := wrap_u64_small _ (by omega) (by omega)
    by_cases hgt : B.length - a < m
    · have HO : Hid (outTake B a (m : Int) = .bad 3) := by show _ = _; rw [outTake, if_neg hneg, if_pos (by omega)]
      have HE := Lib.hid (get_bytes_eof (.slice p B.length c) B a m w h ha hz hgt)
      clear h hn
      go_enter Tryd.func51, Tryd.ntmps51
      go_wp2_with fail
      refine HE.out.mono ?_
      rintro en w1 ⟨rfl, rfl⟩
      clear HE
      go_wp2_with fail
      refine (bytes_clone _ 0 [] w1 (Rd.nil w1 1) (by simp) (by omega)).mono ?_
      rintro en w2 ⟨r, rfl, hM⟩
      have HB := Lib.hid hM.2
      obtain ⟨p3, c3, hr⟩ := (Rd.of_owns hM.1).shape
      subst hr
      clear hM
      go_wp2_with fail
      go_ret3
      exact ⟨by rw [HO.out]; exact ⟨_, rfl⟩, HB.out⟩
    · have HO : Hid (outTake B a (m : Int) = .ok ((B.drop a).take m) (a + m)) := by show _ = _; rw [outTake, if_neg hneg, if_neg (by omega)]; rfl
      have HE := Lib.hid (get_bytes_ok (.slice p B.length c) B a m w h ha hz hgt)
      have HXl : Hid (((B.drop a).take m).length = m) := by show _ = _; rw [List.length_take, List.length_drop]; omega
      have HL : Hid (m ≤ 140737488355328) := by show _ ≤ _; omega
      obtain ⟨A, hA⟩ : ∃ A, a + m = A := ⟨_, rfl⟩
      rw [hA] at HO HE
      clear h hn hA
      go_enter Tryd.func51, Tryd.ntmps51
      go_wp2_with fail
      refine HE.out.mono ?_
      rintro en w1 ⟨⟨p2, c2, rfl, hR⟩, rfl⟩
      have HR := Lib.hid hR
      clear HE hR
      go_wp2_with fail
      refine (bytes_clone _ m _ w1 HR.out (u8s_oneCell _) HL.out).mono ?_
      rintro en w2 ⟨r, rfl, hM⟩
      have HB := Lib.hid hM.2
      obtain ⟨p3, c3, hr⟩ := (Rd.of_owns hM.1).shape
      subst hr
      have HM := Lib.hid hM.1
      clear hM HR
      go_wp2_with fail
      go_ret3
      refine ⟨?_, HB.out⟩
      rw [HO.out]
      show ∃ p c, _ ∧ _
      rw [HXl.out]
      exact ⟨_, _, rfl, HM.out⟩

set_option maxHeartbeats 1000000 in
theorem lit_section (v : Value) (B : List Nat) (a id : Nat) (x : Nat) (w : World) (hT : Tab w) (h : Rd w 1 v B.length (u8s B)) (hB : ∀ c ∈ B, c < 256) (ha : a ≤ B.length) (hz : B.length ≤ 140737488355000) (hid : id < 256)
    (hx : w.cell? ⟨x, 0, none⟩ = some (.int .u8 (id : Int))) :
    Calls Tryd.prog 44 #[v, .int .i64 (a : Int), .pointer (some ⟨x, 0, none⟩)] w fun en w' => TupS (outSection B a id) w w' en ∧ Below w.heap.size w w' := by
  have HG := Lib.hid (get_section v B a id w hT h hB ha hz hid)
  have HLen : Hid (∀ l b, outSection B a id = .ok l b → l.length ≤ 140737488355328) := fun l b he => by
    by_cases hla : B.length ≤ a
    · rw [outSection_none hla] at he; cases he
    · have hget : B[a]? = some B[a] := List.getElem?_eq_getElem (by omega)
      by_cases hne : B[a] = id
      · rw [hne] at hget
        rcases outSection_cases hB hget with ⟨e, _, _, ho⟩ | ⟨x, to, _, _, _, _, ho⟩
        · rw [ho] at he; cases he
        · rw [ho] at he
          split at he
          · cases he
          · split at he
            · simp only [Out.ok.injEq] at he
              rw [← he.1, List.length_take, List.length_drop]; omega
            · cases he
      · rw [outSection_other hget hne] at he; cases he
  obtain ⟨p, c, hv⟩ := h.shape
  subst hv
  clear h hB hT
  go_enter Tryd.func44, Tryd.ntmps44
  go_wp2_with fail
  refine HG.out.mono ?_
  rintro en w1 ⟨hR, hBel⟩
  have HB1 := Lib.hid hBel
  clear hBel HG
  cases ho : outSection B a id with
  | bad e =>
    rw [ho] at hR
    unfold TupR at hR
    subst hR
    have HO := Lib.hid ho
    clear HLen ho
    go_wp2_with fail
    refine (bytes_clone _ 0 [] w1 (Rd.nil w1 1) (by simp) (by omega)).mono ?_
    rintro en w2 ⟨r, rfl, hM⟩
    have HB := Lib.hid (HB1.out.trans (hM.2.mono HB1.out.size))
    obtain ⟨p3, c3, hr⟩ := (Rd.of_owns hM.1).shape
    subst hr
    clear hM
    go_wp2_with fail
    go_ret3
    exact ⟨by rw [HO.out]; exact ⟨_, rfl⟩, HB.out⟩
  | ok l b =>
    have HL := Lib.hid (HLen.out l b ho)
    have HO := Lib.hid ho
    rw [ho] at hR
    obtain ⟨p2, c2, rfl, hR2⟩ := hR
    have HR := Lib.hid hR2
    clear hR2 HLen ho
    go_wp2_with fail
    refine (bytes_clone _ l.length _ w1 HR.out (u8s_oneCell _) HL.out).mono ?_
    rintro en w2 ⟨r, rfl, hM⟩
    have HB := Lib.hid (HB1.out.trans (hM.2.mono HB1.out.size))
    obtain ⟨p3, c3, hr⟩ := (Rd.of_owns hM.1).shape
    subst hr
    have HM := Lib.hid (owns_rebase hM.1 (base' := w.heap.size) (fun k hk => by have := (hM.1.lt k hk).1; have := HB1.out.size; omega))
    clear hM HR
    go_wp2_with fail
    go_ret3
    exact ⟨by rw [HO.out]; exact ⟨_, _, rfl, HM.out⟩, HB.out⟩

set_option maxHeartbeats 2000000 in
/-- 'read' of bytes, over whatever closure. -/
theorem read_slice (F : FuncId) (hcf : ∀ (args : Array Value) (w : World), (callFunc F args).run Tryd.prog w = .ok (.enter F args) w) (x : Nat) (o : Out (List Nat)) (ho : ∀ e, o = .bad e → e ≠ 0) (q : Nat) (v : Value) (B : List Nat) (a : Nat) (w : World) (h : RRd w q v B a 0)
    (hget : ∀ w', Below w.heap.size w w' → Calls Tryd.prog F #[v, .int .i64 (a : Int), .pointer (some ⟨x, 0, none⟩)] w' fun en w'' => TupS o w' w'' en ∧ Below w'.heap.size w' w'') :
    Calls Tryd.prog 43 #[.pointer (some ⟨q, 0, none⟩), .func (.func F) #[] #[.pointer (some ⟨x, 0, none⟩)]] w fun en w' => Mods (fun k => k = q) w w' ∧ GotS o w w' (fun b e => RRd w' q v B b e) a en := by
  have HE := Lib.hid (rd_err q v B a 0 w h)
  have H := Lib.hid h
  have HG := Lib.hid hget
  have HC : Hid (∀ w', Below w.heap.size w w' → w'.cell? ⟨q, 0, none⟩ = some v ∧ w'.cell? ⟨q, 1, none⟩ = some (.int .i64 (a : Int)) ∧ w'.cell? ⟨q, 2, none⟩ = some (.int .i64 0)) := fun w' hb => by
    obtain ⟨e0, e1, e2, _, _⟩ := (H.out.below hb).cells
    exact ⟨e0, e1, e2⟩
  obtain ⟨p, c, hv⟩ := h.rd.shape
  subst hv
  clear h hget
  go_enter Tryd.func43, Tryd.ntmps43
  go_wp2_with fail
  refine HE.out.mono ?_
  rintro en w1 ⟨rfl, rfl⟩
  clear HE
  go_wp2_with fail
  refine wp_region_takeH (fun w' => Below w1.heap.size w1 w') [9] [0, 1, 2, 3, 4, 5, 6, 7, 8, 9, 10, 11, 12, 13, 14, 15, 16] (by kernel_rfl) (by kernel_rfl) (by kernel_rfl) ?_ ?_ ?_
  · intro c a a' w hd h; exact ⟨hd ▸ h.1, h.2⟩
  · exact ⟨rfl, rfl, rfl, Nat.le_refl _, fun _ _ => rfl⟩
  simp only [taken, List.map_cons, List.map_nil, List.getElem?_cons_succ, List.getElem?_cons_zero, Option.getD_some]
  repeat (first
        | (refine takeH_skip rfl ?_; simp only [Act.put, List.setIfInBounds_toArray, List.set_cons_succ, List.set_cons_zero])
        | (refine takeH_blind rfl rfl ?_; apply Exists.intro; refine ⟨fun w => ?_, ?_⟩; (go_simp; try with_reducible rfl); simp only [Act.put, List.setIfInBounds_toArray, List.set_cons_succ, List.set_cons_zero])
        | (refine takeH_reads rfl rfl ?_; apply Exists.intro; refine ⟨fun w' hS => ?_, ?_⟩; (obtain ⟨d0, d1, d2⟩ := HC.out w' hS; go_simp; try with_reducible rfl); simp only [Act.put, List.setIfInBounds_toArray, List.set_cons_succ, List.set_cons_zero]))
  refine takeH_call rfl rfl (fun K hK => ?_)
  go_wp2_with fail
  have HB1 : Hid (Below w1.heap.size w1 w1.drew) := ⟨rfl, rfl, rfl, Nat.le_refl _, fun _ _ => rfl⟩
  refine (HG.out _ HB1.out).mono ?_
  rintro en w2 ⟨hR, hBel⟩
  have HB2 : Hid (Below w1.heap.size w1 w2) := HB1.out.trans hBel
  have H2 := Lib.hid (H.out.below HB2.out)
  have HM2 : Hid (Mods (fun k => k = q) w1 w2) := Mods.of_below HB2.out _
  clear hBel HG HB1
  cases o with
  | bad e =>
    have he : e ≠ 0 := ho e rfl
    have heb : ((e : Int) == 0) = false := by rw [beq_eq_false_iff_ne]; omega
    obtain ⟨r, rfl⟩ := hR
    refine hK _ _ HB2.out ?_
    clear hK K
    repeat (first
        | (refine takeH_skip rfl ?_; simp only [Act.put, List.setIfInBounds_toArray, List.set_cons_succ, List.set_cons_zero])
        | (refine takeH_blind rfl rfl ?_; apply Exists.intro; refine ⟨fun w => ?_, ?_⟩; (go_simp; try with_reducible rfl); simp only [Act.put, List.setIfInBounds_toArray, List.set_cons_succ, List.set_cons_zero])
        | (refine takeH_reads rfl rfl ?_; apply Exists.intro; refine ⟨fun w' hS => ?_, ?_⟩; (obtain ⟨d0, d1, d2⟩ := HC.out w' hS; go_simp; try with_reducible rfl); simp only [Act.put, List.setIfInBounds_toArray, List.set_cons_succ, List.set_cons_zero]))
    refine takeH_nil ?_
    clear HC
    go_wp2_with fail
    refine (rd_fail q _ B a 0 (e : Int) _ H2.out).mono ?_
    rintro en w3 ⟨rfl, hR, hm⟩
    rw [if_pos rfl] at hR
    have HM := Lib.hid (HM2.out.trans hm (fun _ _ e => e))
    have HR := Lib.hid hR
    clear hR hm
    go_wp2_with fail
    go_ret
    exact ⟨HM.out, rfl, HR.out⟩
  | ok l b =>
    obtain ⟨p2, c2, rfl, hO⟩ := hR
    have HO := Lib.hid hO
    refine hK _ _ HB2.out ?_
    clear hK K hO
    repeat (first
        | (refine takeH_skip rfl ?_; simp only [Act.put, List.setIfInBounds_toArray, List.set_cons_succ, List.set_cons_zero])
        | (refine takeH_blind rfl rfl ?_; apply Exists.intro; refine ⟨fun w => ?_, ?_⟩; (go_simp; try with_reducible rfl); simp only [Act.put, List.setIfInBounds_toArray, List.set_cons_succ, List.set_cons_zero])
        | (refine takeH_reads rfl rfl ?_; apply Exists.intro; refine ⟨fun w' hS => ?_, ?_⟩; (obtain ⟨d0, d1, d2⟩ := HC.out w' hS; go_simp; try with_reducible rfl); simp only [Act.put, List.setIfInBounds_toArray, List.set_cons_succ, List.set_cons_zero]))
    refine takeH_nil ?_
    clear HC
    obtain ⟨m0, m1, m2, f1, f2⟩ := H2.out.cells
    have HS := Lib.hid (H2.out.setAt b)
    have HSM : Hid (Mods (fun k => k = q) w1 (w2.setCell ⟨q, 1, none⟩ (.int .i64 (b : Int)))) := HM2.out.trans (mods_set _ q 1 _) (fun _ _ e => e)
    have HOw : Hid ((w2.setCell ⟨q, 1, none⟩ (.int .i64 (b : Int))).ownsRow w1.heap.size 5 1 (.slice p2 l.length c2) l.length (u8s l)) := (mods_set w2 q 1 _).owns HO.out (fun k hk e => by have h1 := (HO.out.lt k hk).1; have h2 := H.out.blk.lt; have h3 : w1.drew.heap.size = w1.heap.size := rfl; omega)
    go_wp2_with fail
    go_ret
    exact ⟨HSM.out, ⟨_, rfl, HOw.out⟩, HS.out⟩

theorem enter_take (args : Array Value) (w : World) : (callFunc 51 args).run Tryd.prog w = .ok (.enter 51 args) w := rfl
theorem enter_section (args : Array Value) (w : World) : (callFunc 44 args).run Tryd.prog w = .ok (.enter 44 args) w := rfl
end Go.Proofs.YtkgghlhmgolfbaaDoor
