/- Layer 4: the reference's reader: Section. -/
import Derived.Test.YtkgghlhmgolfbaaDoorRef04D
import Derived.Test.YtkgghlhmgolfbaaDoorRef03B
set_option linter.unusedVariables false
namespace Go.Proofs.YtkgghlhmgolfbaaDoor
open Go Go.RowKit

theorem rd_part {w : World} {b off n c : Nat} {vs : List Value} (h : Rd w 1 (.slice (some ⟨b, off, none⟩) n c) n vs) (i k : Nat) (hi : i ≤ k) (hk : k ≤ n) (hc : ¬ c = i) : Rd w 1 (.slice (some ⟨b, off + i, none⟩) (k - i) (c - i)) (k - i) ((vs.take k).drop i) := by
  have h2 := h.fromTo i k hi hk
  unfold sliced at h2
  rw [if_neg hc] at h2
  have e : (⟨b, off, none⟩ : Addr).add i = ⟨b, off + i, none⟩ := by unfold Addr.add; split <;> simp_all
  simp only [Option.map_some, Nat.mul_one, e] at h2
  exact h2
theorem u8s_part (B : List Nat) (i k : Nat) : ((u8s B).take k).drop i = u8s ((B.take k).drop i) := by simp [u8s, List.map_drop, List.map_take]

set_option maxHeartbeats 4000000 in
theorem rr_section (q : Nat) (v : Value) (B : List Nat) (a id : Nat) (w : World) (h : RRd w q v B a 0) (hB : ∀ c ∈ B, c < 256) (hz : B.length ≤ 140737488355000) (hid : id < 256) :
    Calls Tryd.prog 38 #[.pointer (some ⟨q, 0, none⟩), .int .u8 (id : Int)] w fun en w' => Mods (fun k => k = q) w w' ∧ GotS (outSection B a id) w w' (fun b e => RRd w' q v B b e) a en := by
  obtain ⟨c0, c1, c2, f1, f2⟩ := h.cells
  have H := Lib.hid h
  have HB := Lib.hid hB
  by_cases hla : B.length ≤ a
  · have HO := Lib.hid (outSection_none hla id)
    obtain ⟨p, c, hv⟩ := h.rd.shape
    subst hv
    have hla' : (B.length : Int) ≤ (a : Int) := by omega
    clear h hB
    go_enter Tryd.func38, Tryd.ntmps38
    go_wp2_with fail
    refine (rr_fail q _ B a 0 3 _ H.out).mono ?_
    rintro en w2 ⟨rfl, hR, hm⟩
    rw [if_pos rfl] at hR
    have HM := Lib.hid hm
    have HR := Lib.hid hR
    clear hR hm
    go_wp2_with fail
    go_ret
    exact ⟨HM.out, by rw [HO.out]; exact ⟨rfl, HR.out⟩⟩
  · have hla' : ¬ (B.length : Int) ≤ (a : Int) := by omega
    have hlt : a < B.length := by omega
    obtain ⟨b, off, c, hv, hnc, hcm, hc⟩ := h.rd.at (fun e => by have := congrArg List.length e; rw [u8s_length] at this; simp at this; subst this; simp at hlt)
    subst hv
    have hcell := hc a _ (u8s_get _ _ hlt)
    have h8 := hB _ (List.getElem_mem hlt)
    have hget : B[a]? = some B[a] := List.getElem?_eq_getElem hlt
    have hlt2 : (a : Int) < (B.length : Int) := by omega
    have HG := Lib.hid (ref_get (.slice (some ⟨b, off, none⟩) B.length c) B ((a + 1 : Nat) : Int) w h.rd hB)
    have hcm' : (c : Int) ≤ 9223372036854775807 := by unfold maxLen at hcm; omega
    clear hc hcm
    by_cases hne : B[a] = id
    · rw [hne] at hget hcell h8
      have hcs := outSection_cases hB hget
      have HA1 : Hid ((a : Int) + 1 = ((a + 1 : Nat) : Int)) := by show _ = _; omega
      clear h hB hne hget
      go_enter Tryd.func38, Tryd.ntmps38
      go_wp2_with fail
      rw [HA1.out]
      refine HG.out.mono ?_
      rintro en w1 ⟨rfl, rfl⟩
      rcases hcs with ⟨e, he, hr, ho⟩ | ⟨x, to, hr, hto, htl, hx, ho⟩
      · rw [hr]
        have HO := Lib.hid ho
        have heb : ((e : Int) == 0) = false := by rw [beq_eq_false_iff_ne]; omega
        clear hr ho HG
        go_wp2_with fail
        refine (rr_fail q _ B a 0 (e : Int) _ H.out).mono ?_
        rintro en w2 ⟨rfl, hR, hm⟩
        rw [if_pos rfl] at hR
        have HM := Lib.hid hm
        have HR := Lib.hid hR
        clear hR hm
        go_wp2_with fail
        go_ret
        exact ⟨HM.out, by rw [HO.out]; exact ⟨rfl, HR.out⟩⟩
      · rw [hr]
        have HO := Lib.hid ho
        clear hr ho HG
        by_cases hr4 : B.length - to < 4
        · have hr4' : (B.length : Int) - (to : Int) < 4 := by omega
          rw [if_pos (Or.inl hr4)] at HO
          clear hr4
          go_wp2_with fail
          refine (rr_fail q _ B a 0 3 _ H.out).mono ?_
          rintro en w2 ⟨rfl, hR, hm⟩
          rw [if_pos rfl] at hR
          have HM := Lib.hid hm
          have HR := Lib.hid hR
          clear hR hm
          go_wp2_with fail
          go_ret
          exact ⟨HM.out, by rw [HO.out]; exact ⟨rfl, HR.out⟩⟩
        · have hr4' : ¬ (B.length : Int) - (to : Int) < 4 := by omega
          have hwR : IntKind.u64.wrap ((B.length : Int) - (to : Int) - 4) = (B.length : Int) - (to : Int) - 4 := wrap_u64_small _ (by omega) (by omega)
          by_cases hgt : B.length - to - 4 < x
          · have hgt' : (B.length : Int) - (to : Int) - 4 < (x : Int) := by omega
            rw [if_pos (Or.inr hgt)] at HO
            clear hr4 hgt
            go_wp2_with fail
            refine (rr_fail q _ B a 0 3 _ H.out).mono ?_
            rintro en w2 ⟨rfl, hR, hm⟩
            rw [if_pos rfl] at hR
            have HM := Lib.hid hm
            have HR := Lib.hid hR
            clear hR hm
            go_wp2_with fail
            go_ret
            exact ⟨HM.out, by rw [HO.out]; exact ⟨rfl, HR.out⟩⟩
          · have hgt' : ¬ (B.length : Int) - (to : Int) - 4 < (x : Int) := by omega
            rw [if_neg (by omega)] at HO
            have hwx : IntKind.i64.wrap (x : Int) = (x : Int) := IntWalk.i64_in _ (by omega)
            obtain ⟨A, hA⟩ : ∃ A, to + x = A := ⟨_, rfl⟩
            obtain ⟨T, hT⟩ : ∃ T, A + 4 = T := ⟨_, rfl⟩
            have hAi : (to : Int) + (x : Int) = (A : Int) := by omega
            have hTi : (A : Int) + 4 = (T : Int) := by omega
            have hTl : T ≤ B.length := by omega
            have hTl' : (T : Int) ≤ (c : Int) := by omega
            have haT' : (a : Int) ≤ (T : Int) := by omega
            have hca : ¬ c = a := by omega
            clear hr4 hgt
            have hla : ((B.take T).drop a).length = T - a := by rw [List.length_drop, List.length_take, Nat.min_eq_left hTl]
            have HK : Hid (Rd w 1 (.slice (some ⟨b, off + a, none⟩) (T - a) (c - a)) ((B.take T).drop a).length (u8s ((B.take T).drop a))) := by
              show Rd _ _ _ _ _
              rw [hla, ← u8s_part]
              exact rd_part H.out.rd a T (by omega) hTl hca
            have HK8 : Hid (∀ z ∈ (B.take T).drop a, z < 256) := fun z hzm => HB.out z (List.mem_of_mem_take (List.mem_of_mem_drop hzm))
            have HKl : Hid (((B.take T).drop a).length ≤ 140737488355000) := by show _ ≤ _; rw [hla]; omega
            have hct : ¬ c = to := by omega
            have htA' : (to : Int) ≤ (A : Int) := by omega
            have hAc' : (A : Int) ≤ (c : Int) := by omega
            have HDat : Hid (Rd w 1 (.slice (some ⟨b, off + to, none⟩) (A - to) (c - to)) (A - to) (u8s ((B.drop to).take x))) := by
              show Rd _ _ _ _ _
              have h2 := rd_part H.out.rd to A (by omega) (by omega) hct
              rw [u8s_part, List.drop_take, show A - to = x by omega] at h2
              rw [show A - to = x by omega]
              exact h2
            have hAx : A - to = x := by omega
            have hxl : ((B.drop to).take x).length = x := by rw [List.length_take, List.length_drop]; omega
            have HXl := Lib.hid hxl
            have HAx := Lib.hid hAx
            rw [hA, hT] at HO
            clear hla hxl hAx
            go_wp2_with fail
            refine (ref_check _ _ w HK.out HK8.out HKl.out).mono ?_
            rintro en w2 ⟨rfl, hBel⟩
            have H2 := Lib.hid (H.out.below hBel)
            have HM2 : Hid (Mods (fun k => k = q) w w2) := Mods.of_below hBel _
            have HD2 := Lib.hid (HDat.out.below hBel)
            obtain ⟨d0, d1, d2, g1, g2⟩ := H2.out.cells
            clear HK HK8 HKl HDat hBel c0 c1 c2 f1 f2 hcell H
            cases hk : isCrc ((B.take T).drop a) with
            | false =>
              rw [hk] at HO
              simp only [Bool.false_eq_true, if_false] at HO
              clear hk
              go_wp2_with fail
              refine (rr_fail q _ B a 0 12 _ H2.out).mono ?_
              rintro en w3 ⟨rfl, hR, hm⟩
              rw [if_pos rfl] at hR
              have HM := Lib.hid (HM2.out.trans hm (fun _ _ e => e))
              have HR := Lib.hid hR
              clear hR hm
              go_wp2_with fail
              go_ret
              exact ⟨HM.out, by rw [HO.out]; exact ⟨rfl, HR.out⟩⟩
            | true =>
              rw [hk] at HO
              simp only [if_true] at HO
              clear hk
              have H3 := Lib.hid (H2.out.setAt T)
              have HM3 : Hid (Mods (fun k => k = q) w (w2.setCell ⟨q, 1, none⟩ (.int .i64 (T : Int)))) := HM2.out.trans (mods_set _ q 1 _) (fun _ _ e => e)
              have hbq : b ≠ q := H2.out.ne b rfl
              have HD3 : Hid (Rd (w2.setCell ⟨q, 1, none⟩ (.int .i64 (T : Int))) 1 (.slice (some ⟨b, off + to, none⟩) (A - to) (c - to)) (A - to) (u8s ((B.drop to).take x))) := HD2.out.mods (mods_set w2 q 1 _) (fun k hk e => by have e' : b = k := Option.some.inj hk; omega)
              have HB4 : Hid (Below (w2.setCell ⟨q, 1, none⟩ (.int .i64 (T : Int))).heap.size (w2.setCell ⟨q, 1, none⟩ (.int .i64 (T : Int))) ((w2.setCell ⟨q, 1, none⟩ (.int .i64 (T : Int))).alloc (.cells #[] 5))) := (Below.refl _ _).alloc (Nat.le_refl _) _
              have HD4 := Lib.hid (HD3.out.below HB4.out)
              have HO4 : Hid (((w2.setCell ⟨q, 1, none⟩ (.int .i64 (T : Int))).alloc (.cells #[] 5)).ownsRow 0 5 1 (.slice (some ⟨w2.heap.size, 0, none⟩) 0 0) 0 []) := by
                show World.ownsRow _ _ _ _ _ _ _
                have h2 := World.ownsRow_lit (base := 0) (e := 5) (size := 1) (w2.setCell ⟨q, 1, none⟩ (.int .i64 (T : Int))) #[] 0 (Nat.zero_le _) (by simp [maxLen]) (by simp)
                simpa using h2
              have HL4 : Hid ((0 + (A - to)) * 1 ≤ 140737488355328 ∧ 0 + (A - to) ≤ maxLen) := by show _ ∧ _; unfold maxLen; omega
              have e0 : ((w2.setCell ⟨q, 1, none⟩ (.int .i64 (T : Int))).alloc (.cells #[] 5)).cell? ⟨q, 0, none⟩ = some (.slice (some ⟨b, off, none⟩) B.length c) := (H3.out.below HB4.out).cells.1
              have hqn : q < w2.heap.size := H2.out.blk.lt
              have hqne : q ≠ w2.heap.size := by omega
              clear HD2 HD3
              go_wp2_with (at_builtin; refine wpList_extend Tryd.elemU8 _ _ _ _ _ _ _ HO4.out HD4.out (u8s_oneCell _) HL4.out rfl _ _ rfl rfl rfl ?_)
              intro v5 w5 hown hmods hfr
              have HB5 : Hid (Below w2.heap.size (w2.setCell ⟨q, 1, none⟩ (.int .i64 (T : Int))) w5) := by
                have h1 : Below w2.heap.size (w2.setCell ⟨q, 1, none⟩ (.int .i64 (T : Int))) ((w2.setCell ⟨q, 1, none⟩ (.int .i64 (T : Int))).alloc (.cells #[] 5)) := by simpa using HB4.out
                refine Below.trans h1 (hmods.below (by simp) (fun k hk e => by have e' : w2.heap.size = k := Option.some.inj e; omega))
              have HF5 : Hid (w5.ownsRow w2.heap.size 5 1 v5 (A - to) (u8s ((B.drop to).take x))) := by
                have h2 := owns_rebase hown (base' := w2.heap.size) (fun k hk => by
                  rcases hfr k hk with e | e
                  · have e' : w2.heap.size = k := Option.some.inj e
                    omega
                  · first | omega | (simp at e; omega))
                show World.ownsRow _ _ _ _ _ _ _
                simpa using h2
              clear hown hmods hfr HO4 HD4 HB4
              go_wp2_with fail
              go_ret
              refine ⟨HM3.out.trans (Mods.of_below (by simpa using HB5.out) (fun k => k = q)) (fun _ _ e => e), ?_⟩
              rw [HO.out]
              refine ⟨⟨_, rfl, ?_⟩, H3.out.below (by simpa using HB5.out)⟩
              rw [HXl.out]
              have h6 := HF5.out
              rw [HAx.out] at h6
              exact owns_rebase h6 (fun k hk => by have := (h6.lt k hk).1; have := HM2.out.size; omega)
    · have HO := Lib.hid (outSection_other hget hne)
      have hne' : ¬ ((B[a] : Nat) : Int) = (id : Int) := by omega
      clear h hB hget HG
      generalize B[a] = y at *
      go_enter Tryd.func38, Tryd.ntmps38
      go_wp2_with fail
      refine (rr_fail q _ B a 0 11 _ H.out).mono ?_
      rintro en w2 ⟨rfl, hR, hm⟩
      rw [if_pos rfl] at hR
      have HM := Lib.hid hm
      have HR := Lib.hid hR
      clear hR hm
      go_wp2_with fail
      go_ret
      exact ⟨HM.out, by rw [HO.out]; exact ⟨rfl, HR.out⟩⟩
end Go.Proofs.YtkgghlhmgolfbaaDoor
