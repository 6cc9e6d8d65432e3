/- Layer 8: the reference's Get. -/
import Derived.Test.YtpphgmgdmdehpaaRef08A
import Derived.Test.YtpphgmgdmdehpaaGSu
import Derived.Test.YtpphgmgdmdehpaaDictB
set_option linter.unusedVariables false
namespace Go.Proofs.Ytpphgmgdmdehpaa
open Go Go.RowKit

def usedV (N : Nat) (is : List Nat) : List Value := (List.range N).map fun j => .bool (is.contains j)
theorem usedV_length (N : Nat) (is : List Nat) : (usedV N is).length = N := by simp [usedV]
theorem usedV_get (N : Nat) (is : List Nat) (j : Nat) (h : j < N) : (usedV N is)[j]? = some (.bool (is.contains j)) := by simp [usedV, h]
theorem usedV_nil (N : Nat) : usedV N [] = List.replicate N (.bool false) := by
  apply List.ext_getElem?
  intro j
  by_cases h : j < N
  · rw [usedV_get N [] j h]; simp [h]
  · rw [List.getElem?_eq_none (by rw [usedV_length]; omega), List.getElem?_eq_none (by simp; omega)]
theorem usedV_set (N : Nat) (is : List Nat) (x : Nat) (h : x < N) : (usedV N is).set x (.bool true) = usedV N (is ++ [x]) := by
  apply List.ext_getElem?
  intro j
  by_cases hj : j < N
  · rw [usedV_get N _ j hj]
    by_cases hx : x = j
    · subst hx
      rw [List.getElem?_set_self (by rw [usedV_length]; exact h)]
      simp
    · rw [List.getElem?_set_ne hx, usedV_get N is j hj]
      have : (is ++ [x]).contains j = is.contains j := by
        simp [List.contains_eq_mem, List.mem_append]
        omega
      rw [this]
  · rw [List.getElem?_eq_none (by rw [List.length_set, usedV_length]; omega), List.getElem?_eq_none (by rw [usedV_length]; omega)]

theorem GSu.other {S : Nat → Prop} {q : Nat} {w0 wr w' : World} {v lv v' : Value} {acc : List Nat} {bits : List Bool} (h : GSu q w0 v wr lv acc v' bits) (hm : Mods S wr w') (hS : ∀ k, S k → w0.heap.size ≤ k ∧ lv.ownBlock ≠ some k) : GSu q w0 v w' lv acc v' bits := by
  have hlt := h.lt
  refine ⟨hm.owns h.row (fun k hk e => (hS k e).2 hk), h.rd.mods hm (fun e => by have := (hS q e).1; omega) (fun hne k hk e => ?_), h.own, h.mods.trans hm (fun k hk e => by have := (hS k e).1; omega), h.lt, h.vlt, h.len⟩
  rw [h.own hne] at hk
  have := h.vlt hne k hk; have := (hS k e).1; omega

/-- The dictionary, the flags and the values read, in rows of the call's own. -/
structure GD (q : Nat) (w0 : World) (v : Value) (wr : World) (gd cd gu cu N : Nat) (d is : List Nat) (lv v' : Value) (bits : List Bool) : Prop where
  gs : GSu q w0 v wr lv (valsD d is) v' bits
  dr : wr.ownsRow w0.heap.size 25 1 (.slice (some ⟨gd, 0, none⟩) N cd) N (u64s d)
  ur : wr.ownsRow w0.heap.size 4 1 (.slice (some ⟨gu, 0, none⟩) N cu) N (usedV N is)
  ld : lv.ownBlock ≠ some gd
  lu : lv.ownBlock ≠ some gu
  du : gd ≠ gu
theorem GSu.fresh {q : Nat} {w0 wr : World} {v lv v' : Value} {acc : List Nat} {bits : List Bool} (h : GSu q w0 v wr lv acc v' bits) : GSu q w0 v wr (.slice none 0 0) [] v' bits := ⟨World.ownsRow_nil _ _ _ _, h.rd, h.own, h.mods, h.lt, h.vlt, h.len⟩
theorem GD.read {q gd cd gu cu N n : Nat} {w0 wr w' : World} {d is : List Nat} {v lv v' v'' : Value} {bits : List Bool} (h : GD q w0 v wr gd cd gu cu N d is lv v' bits) (k : RefBitsPost q v' (bits.drop n) wr v'' w') : GD q w0 v w' gd cd gu cu N d is lv v'' (bits.drop n) := by
  have hlt := h.gs.lt
  refine ⟨h.gs.read k, k.mods.owns h.dr (fun j hj e => ?_), k.mods.owns h.ur (fun j hj e => ?_), h.ld, h.lu, h.du⟩
  · have := (h.dr.lt j hj).1; omega
  · have := (h.ur.lt j hj).1; omega
theorem GD.mark {q gd cd gu cu N x : Nat} {w0 wr : World} {d is : List Nat} {v lv v' : Value} {bits : List Bool} (h : GD q w0 v wr gd cd gu cu N d is lv v' bits) (hx : x < N) :
    GSu q w0 v (wr.setCell ⟨gu, x, none⟩ (.bool true)) lv (valsD d is) v' bits ∧ (wr.setCell ⟨gu, x, none⟩ (.bool true)).ownsRow w0.heap.size 25 1 (.slice (some ⟨gd, 0, none⟩) N cd) N (u64s d) ∧ (wr.setCell ⟨gu, x, none⟩ (.bool true)).ownsRow w0.heap.size 4 1 (.slice (some ⟨gu, 0, none⟩) N cu) N (usedV N (is ++ [x])) := by
  have hm : Mods (fun k => k = gu) wr (wr.setCell ⟨gu, x, none⟩ (.bool true)) := Mods.set _ _ _ _ (fun _ => rfl)
  refine ⟨h.gs.other hm (fun k e => by subst e; exact ⟨(h.ur.lt k rfl).1, h.lu⟩), hm.owns h.dr (fun k hk e => h.du ((Option.some.inj hk).trans e)), ?_⟩
  rw [← usedV_set N is x hx]
  exact (h.ur.stored x _).1

set_option maxRecDepth 20000 in
set_option maxHeartbeats 4000000 in
theorem ref_get08 (q : Nat) (v : Value) (n : Nat) (bs : List Bool) (w : World) (h : RefIn w q v bs) (hb : bs.length ≤ 70368744177664) (hn : n ≤ 1000000) :
    Calls Try.prog 29 #[.pointer (some ⟨q, 0, none⟩), .int .i64 (n : Int)] w (GetPostV q w v (decD n bs)) := by
  have H := Lib.hid h
  have HNn := Lib.hid hn
  have HG0 : Hid (GSu q w v w (.slice none 0 0) [] v bs) := ⟨World.ownsRow_nil _ _ _ _, H.out, fun _ => rfl, Mods.refl _ _, H.out.blk.lt, fun hne k hk => H.out.rd.lt (fun e => hne (by simpa [bls] using e)) k hk, hb⟩
  clear h
  by_cases h0 : n = 0
  · subst h0
    have HR := Lib.hid (HG0.out.fails (getD_none bs))
    go_enter Try.func29, Try.ntmps29
    go_wp2_with fail
    go_ret2
    exact HR.out
  · have hnz : ¬ (n : Int) = 0 := by omega
    have hnzb : ((n : Int) == 0) = false := by rw [beq_eq_false_iff_ne]; exact hnz
    have hnb : (n : Int) ≤ 1000000 := by omega
    by_cases h7 : bs.length < 7
    · have HE := Lib.hid (calls_flip (ref_rbits_eof q v 7 bs w HG0.out.rd (by decide) h7))
      have HR := Lib.hid (HG0.out.fails (getD_eof7 h0 h7))
      clear h0 h7 hb hn
      go_enter Try.func29, Try.ntmps29
      go_wp2_with fail
      refine HE.out.mono ?_
      rintro en w7 ⟨rfl, rfl⟩
      go_wp2_with fail
      go_ret2
      exact HR.out
    · have HF := Lib.hid (field_full h7)
      have hk7 := take_lt h7
      have HE1 := Lib.hid (ref_rbits q v 7 bs w HG0.out.rd (by decide) (by omega) HG0.out.len)
      have HDW := Lib.hid (getD_words h0 HF.out)
      clear h7 h0 hb hn
      go_enter Try.func29, Try.ntmps29
      go_wp2_with fail
      refine HE1.out.mono ?_
      rintro en w1 ⟨rfl, v1, hP⟩
      have HG1 := Lib.hid (HG0.out.read hP)
      clear hP HE1 HF HG0
      generalize numOf (bs.take 7) = k at *
      generalize bs.drop 7 = b1 at *
      have hkb : (k : Int) ≤ 127 := by have : k < 128 := by simpa using hk7
                                       omega
      have hwk : IntKind.i64.wrap (k : Int) = (k : Int) := IntWalk.i64_in _ (by omega)
      clear hk7
      go_wp2_with fail
      go_loopw [8, 9] (fun dv iv wr => ∃ (i : Nat) (acc : List Nat) (bits : List Bool) (v' : Value), i ≤ k + 1 ∧ iv = .int .i64 (i : Int) ∧ Hid (acc.length = i) ∧ Hid (WAt k b1 acc bits) ∧ Hid (GSu q w v wr dv acc v' bits)) (fun _ iv _ => k + 1 - (intOf iv).toNat)
      case atStart => exact ⟨0, [], b1, v1, by omega, rfl, rfl, wat_start k b1, HG1.out⟩
      case round =>
        obtain ⟨i, acc, bits, v0, hik, rfl, HLen, HA, HG⟩ := hrel
        obtain ⟨pa, ca, hva⟩ := (Rd.of_owns HG.out.row).shape
        rw [HLen.out] at hva
        subst hva
        have hib : (i : Int) ≤ 128 := by omega
        by_cases hi : i < k + 1
        · have hi' : (i : Int) ≤ (k : Int) := by omega
          have HI : Hid (acc.length < k + 1) := by show _ < _; rw [HLen.out]; exact hi
          by_cases h64 : bits.length < 64
          · have HE := Lib.hid (calls_flip (ref_rbits_eof q v0 64 bits wr HG.out.rd (by decide) h64))
            have HR := Lib.hid (HG.out.fails (HDW.out.trans (getD_weof HA.out HI.out h64)))
            clear h64
            go_wp2_with fail
            refine HE.out.mono ?_
            rintro en w7 ⟨rfl, rfl⟩
            go_wp2_with fail
            go_ret2
            exact HR.out
          · have HF := Lib.hid (field_full h64)
            have HE := Lib.hid (ref_rbits q v0 64 bits wr HG.out.rd (by decide) (by omega) HG.out.len)
            clear h64
            go_wp2_with fail
            refine HE.out.mono ?_
            rintro en w7 ⟨rfl, v7, hP⟩
            have HG7 := Lib.hid (HG.out.read hP)
            generalize numOf (bits.take 64) = x at *
            generalize bits.drop 64 = c2 at *
            clear hP HE
            have HLb : Hid ((i + 1) * 8 ≤ 140737488355328 ∧ i + 1 ≤ maxLen) := by show _ ∧ _; unfold maxLen; omega
            have HO7 : Hid (w7.ownsRow 0 25 1 (.slice pa i ca) i (u64s acc)) := by
              have h := owns_rebase HG7.out.row (base' := 0) (fun _ _ => Nat.zero_le _)
              rw [HLen.out] at h
              exact h
            by_cases h0 : i = 0
            · have HNx := Lib.hid (getD_wnext HA.out HI.out HF.out (fun hne => absurd (List.eq_nil_of_length_eq_zero (by rw [HLen.out]; exact h0)) hne))
              have hz : ¬ (0 : Int) < (i : Int) := by omega
              clear h0
              go_wp2_with (at_builtin; refine wpList_push Try.elemU64 w7 #[.int .u64 (x : Int)] _ _ _ HO7.out rfl (one_cell _ rfl) HLb.out rfl _ _ rfl rfl rfl ?_)
              intro v8 w8 hown hmods hfr
              have HG8 : Hid (GSu q w v w8 v8 (acc ++ [x]) v7 c2) := HG7.out.pushed (by rw [List.length_append, HLen.out, u64s_append]; exact hown) hmods hfr
              obtain ⟨p8, c8, hv8⟩ : ∃ p c, v8 = .slice p (i + 1) c := (Rd.of_owns hown).shape
              subst hv8
              clear hown hmods hfr HO7 HG7 HG
              go_wp2_with fail
              go_round
              case rel => exact ⟨i + 1, acc ++ [x], c2, v7, by omega, by go_num, by show _ = _; rw [List.length_append, HLen.out]; rfl, HNx.out, HG8.out⟩
              case measure => simp [intOf]; omega
            · obtain ⟨m, rfl⟩ : ∃ m, i = m + 1 := ⟨i - 1, by omega⟩
              have hz : (0 : Int) < ((m + 1 : Nat) : Int) := by omega
              have hm1 : ((m + 1 : Nat) : Int) - 1 = (m : Int) := by omega
              have HAne : Hid (acc ≠ []) := fun e => by have := HLen.out; rw [e] at this; cases this
              obtain ⟨y, hy⟩ : ∃ y, acc[m]'(by have := HLen.out; omega) = y := ⟨_, rfl⟩
              have HY : Hid (acc.getLastD 0 = y) := by
                show _ = _
                rw [List.getLastD_eq_getLast?, List.getLast?_eq_getElem?, HLen.out, Nat.add_sub_cancel, List.getElem?_eq_getElem (by have := HLen.out; omega), hy]; rfl
              obtain ⟨bx, ox, cx, e, hmm1, hmm2, hcx⟩ := (Rd.of_owns HG7.out.row).at (fun e => by have := congrArg List.length e; rw [u64s_length, HLen.out] at this; simp at this)
              simp only [Value.slice.injEq] at e
              obtain ⟨rfl, hil, rfl⟩ := e
              have hcl : w7.cell? ⟨bx, ox + m, none⟩ = some (.int .u64 (y : Int)) := by rw [← hy]; exact hcx m _ (u64s_get acc m (by have := HLen.out; omega))
              clear hcx hmm1 hmm2 hil hy h0
              have hmb : (m : Int) < ((m + 1 : Nat) : Int) := by omega
              have hm0 : (0 : Int) ≤ (m : Int) := by omega
              by_cases hxy : x ≤ y
              · have hxy' : (x : Int) ≤ (y : Int) := by omega
                have HR := Lib.hid (HG7.out.fails (HDW.out.trans (getD_wbad (n := n) HA.out HI.out HF.out HAne.out (by rw [HY.out]; exact hxy))))
                clear hxy
                go_wp2_with fail
                go_ret2
                exact HR.out
              · have hxy' : ¬ (x : Int) ≤ (y : Int) := by omega
                have HNx := Lib.hid (getD_wnext HA.out HI.out HF.out (fun _ => by rw [HY.out]; omega))
                clear hxy
                go_wp2_with (at_builtin; refine wpList_push Try.elemU64 w7 #[.int .u64 (x : Int)] _ _ _ HO7.out rfl (one_cell _ rfl) HLb.out rfl _ _ rfl rfl rfl ?_)
                intro v8 w8 hown hmods hfr
                have HG8 : Hid (GSu q w v w8 v8 (acc ++ [x]) v7 c2) := HG7.out.pushed (by rw [List.length_append, HLen.out, u64s_append]; exact hown) hmods hfr
                obtain ⟨p8, c8, hv8⟩ : ∃ p c, v8 = .slice p (m + 1 + 1) c := (Rd.of_owns hown).shape
                subst hv8
                clear hown hmods hfr HO7 HG7 HG hcl
                go_wp2_with fail
                go_round
                case rel => exact ⟨m + 1 + 1, acc ++ [x], c2, v7, by omega, by go_num, by show _ = _; rw [List.length_append, HLen.out]; rfl, HNx.out, HG8.out⟩
                case measure => simp [intOf]; omega
        · have hi' : ¬ (i : Int) ≤ (k : Int) := by omega
          obtain ⟨e1, e2, e3⟩ := getD_wdone (n := n) HA.out (by rw [HLen.out]; exact hi)
          have HDX : Hid (decD n bs = decIx acc n bits) := HDW.out.trans e3
          clear e1 e2 e3
          obtain rfl : i = k + 1 := by omega
          clear hi hik hib
          obtain ⟨N, hN⟩ : ∃ N, k + 1 = N := ⟨_, rfl⟩
          have hNk : (k : Int) + 1 = (N : Int) := by omega
          rw [hN] at HLen HG ⊢
          have hNb : (N : Int) ≤ 128 := by omega
          have hN1 : (1 : Int) ≤ (N : Int) := by omega
          have hNk2 : ¬ (N : Int) ≤ (k : Int) := by omega
          obtain ⟨i0, hi0, hz0, hz1, hz2⟩ := info_parts Try.infoBool
          have HI := Lib.hid hi0; have HZ := Lib.hid hz0; have HZ1 := Lib.hid hz1
          have HZ2 : Hid (i0.bytes * N ≤ 281474976710656 ∧ N ≤ maxLen) := by show _ ∧ _; unfold maxLen; rw [hz2]; omega
          have HSz : Hid (w.heap.size ≤ wr.heap.size) := HG.out.mods.size
          clear hi0 hz0 hz1 hz2 hi' HDW HA
          go_wp2_with (refine wpList_make_full _ rfl _ _ _ rfl w.heap.size 4 i0 (.bool false) 1 Try.underlying34 HI.out HZ.out HZ1.out _ _ _ _ N rfl rfl rfl rfl HZ2.out.1 HZ2.out.2 HSz.out ?_)
          intro w4 hown hgr
          obtain ⟨gd, cd, hvd⟩ : ∃ g cap, (Value.slice pa N ca) = .slice (some ⟨g, 0, none⟩) N cap := by
            rcases owns_cases HG.out.row with ⟨_, h0, _⟩ | ⟨g, cap, hv, _⟩
            · rw [HLen.out] at h0; omega
            · rw [HLen.out] at hv; exact ⟨g, cap, hv⟩
          simp only [Value.slice.injEq] at hvd
          obtain ⟨rfl, _, rfl⟩ := hvd
          have HGD : Hid (GD q w v w4 gd ca wr.heap.size N N acc [] (.slice none 0 0) v0 bits) := by
            have hb4 : Below wr.heap.size wr w4 := (Mods.of_grown hgr).below (Nat.le_refl _) (fun k _ e => by cases e)
            have hr := HG.out.row
            rw [HLen.out] at hr
            refine ⟨HG.out.fresh.below hb4, (Mods.of_below hb4 (fun _ => False)).owns hr (fun _ _ e => e), ?_, (fun e => by cases e), (fun e => by cases e), fun e => ?_⟩
            · rw [toList_madeCells_one, ← usedV_nil] at hown
              exact hown
            · have := (hr.lt gd rfl).2; omega
          have HA2 := Lib.hid (iat_start acc.length n bits)
          clear hown hgr HG HSz HZ2 HZ1 HZ HI
          generalize wr.heap.size = gu at *
          go_wp2_with fail
          go_loopw [13, 14] (fun lv iv wr => ∃ (j : Nat) (is : List Nat) (c2 : List Bool) (v' : Value), j ≤ n ∧ iv = .int .i64 (j : Int) ∧ Hid (is.length = j) ∧ Hid (IAt acc.length n bits is c2) ∧ Hid (GD q w v wr gd ca gu N N acc is lv v' c2)) (fun _ iv _ => n - (intOf iv).toNat)
          case atStart => exact ⟨0, [], bits, v0, by omega, rfl, rfl, HA2.out, HGD.out⟩
          case round =>
            obtain ⟨j, is, c2, v2, hjn, rfl, HJl, HA, HG⟩ := hrel
            have HVl : Hid ((valsD acc is).length = j) := by show _ = _; rw [valsD, List.length_map, HJl.out]
            obtain ⟨pl, cl, hvl⟩ := (Rd.of_owns HG.out.gs.row).shape
            rw [HVl.out] at hvl
            subst hvl
            have hjb : (j : Int) ≤ 1000000 := by omega
            by_cases hj : j < n
            · have hj' : (j : Int) < (n : Int) := by omega
              have HJ : Hid (is.length < n) := by show _ < _; rw [HJl.out]; exact hj
              have HWd := Lib.hid (ref_width08 (N : Int) wr (by omega))
              have HWi : Hid (widthI (N : Int) = ((widthD N : Nat) : Int)) := by show _ = _; rw [widthI, Int.toNat_natCast]
              have HWb : Hid (widthD N ≤ 7) := width_le (by omega)
              have HWe : Hid (widthD acc.length = widthD N) := by show _ = _; rw [HLen.out]
              generalize widthD N = W at *
              have hwb : (W : Int) ≤ 7 := by have := HWb.out; omega
              by_cases hsh : c2.length < W
              · have HE := Lib.hid (calls_flip (ref_rbits_eof q v2 W c2 wr HG.out.gs.rd (by omega) hsh))
                have HR := Lib.hid (HG.out.gs.fails (HDX.out.trans (getD_ieof HA.out HJ.out (by rw [HWe.out]; exact hsh))))
                clear hsh
                go_wp2_with fail
                refine HWd.out.mono ?_
                rintro e w8 ⟨rfl, h8⟩
                obtain rfl := h8.symm
                rw [HWi.out]
                go_wp2_with fail
                refine HE.out.mono ?_
                rintro en w7 ⟨rfl, rfl⟩
                go_wp2_with fail
                go_ret2
                exact HR.out
              · have HF := Lib.hid (field_full hsh)
                have hx7 := Nat.lt_of_lt_of_le (take_lt hsh) (Nat.pow_le_pow_right (by decide) HWb.out : 2 ^ W ≤ 2 ^ 7)
                have HE := Lib.hid (ref_rbits q v2 W c2 wr HG.out.gs.rd (by omega) (by omega) HG.out.gs.len)
                rw [← HWe.out] at HF
                clear hsh
                go_wp2_with fail
                refine HWd.out.mono ?_
                rintro e w8 ⟨rfl, h8⟩
                obtain rfl := h8.symm
                rw [HWi.out]
                go_wp2_with fail
                refine HE.out.mono ?_
                rintro en w7 ⟨rfl, v7, hP⟩
                have HG7 := Lib.hid (HG.out.read hP)
                rw [HWe.out] at HF
                generalize numOf (c2.take W) = x at *
                generalize c2.drop W = c3 at *
                rw [← HWe.out] at HF
                have hxb : (x : Int) < 128 := by have : x < 128 := by simpa using hx7
                                                 omega
                have hwx : IntKind.i64.wrap (x : Int) = (x : Int) := IntWalk.i64_in _ (by omega)
                clear hP HE hx7 HWd HG
                by_cases hN : N ≤ x
                · have hN' : (N : Int) ≤ (x : Int) := by omega
                  have HR := Lib.hid (HG7.out.gs.fails (HDX.out.trans (getD_ibad HA.out HJ.out HF.out (by rw [HLen.out]; exact hN))))
                  clear hN
                  go_wp2_with fail
                  go_ret2
                  exact HR.out
                · have hN' : ¬ (N : Int) ≤ (x : Int) := by omega
                  have hxN : x < N := by omega
                  have hxi : (x : Int) < (N : Int) := by omega
                  have HNx := Lib.hid (getD_inext HA.out HJ.out HF.out (by rw [HLen.out]; exact hxN))
                  have HMk := Lib.hid (HG7.out.mark hxN)
                  have hfu := HG7.out.ur.frozenAt x
                  have hcu : w7.cell? ⟨gu, x, none⟩ = some (.bool (is.contains x)) := by rw [HG7.out.ur.cellAt x (by omega)]; exact usedV_get N is x hxN
                  have hcd : (w7.setCell ⟨gu, x, none⟩ (.bool true)).cell? ⟨gd, x, none⟩ = some (.int .u64 ((acc.getD x 0 : Nat) : Int)) := by
                    rw [HMk.out.2.1.cellAt x (by omega), u64s_get acc x (by rw [HLen.out]; exact hxN), List.getD_eq_getElem?_getD, List.getElem?_eq_getElem (by rw [HLen.out]; exact hxN)]; rfl
                  have HVs := Lib.hid (valsD_snoc acc is x)
                  generalize acc.getD x 0 = y at *
                  clear hN hxN
                  have HSz8 : Hid ((w7.setCell ⟨gu, x, none⟩ (.bool true)).heap.size = w7.heap.size) := by
                    show _ = _
                    exact World.size_setCell ..
                  have HLb : Hid ((j + 1) * 8 ≤ 140737488355328 ∧ j + 1 ≤ maxLen) := by show _ ∧ _; unfold maxLen; omega
                  have HO7 : Hid ((w7.setCell ⟨gu, x, none⟩ (.bool true)).ownsRow 0 25 1 (.slice pl j cl) j (u64s (valsD acc is))) := by
                    have h := owns_rebase HMk.out.1.row (base' := 0) (fun _ _ => Nat.zero_le _)
                    rw [HVl.out] at h
                    exact h
                  go_wp2_with (at_builtin; refine wpList_push Try.elemU64 (w7.setCell ⟨gu, x, none⟩ (.bool true)) #[.int .u64 (y : Int)] _ _ _ HO7.out rfl (one_cell _ rfl) HLb.out rfl _ _ rfl rfl (by show _ = Value.slice (some ⟨_, 0, none⟩) 1 1; rw [HSz8.out]; rfl) ?_)
                  intro v8 w8 hown hmods hfr
                  have HG8 : Hid (GD q w v w8 gd ca gu N N acc (is ++ [x]) v8 v7 c3) := by
                    refine ⟨?_, hmods.owns HMk.out.2.1 (fun k hk e => HG7.out.ld (by rw [e, ← hk]; rfl)), hmods.owns HMk.out.2.2 (fun k hk e => HG7.out.lu (by rw [e, ← hk]; rfl)), fun e => ?_, fun e => ?_, HG7.out.du⟩
                    · rw [HVs.out]
                      exact HMk.out.1.pushed (by rw [List.length_append, HVl.out, u64s_append]; exact hown) hmods (by rw [HSz8.out]; exact hfr)
                    · rcases hfr gd e with e | e
                      · exact HG7.out.ld e
                      · have := (HMk.out.2.1.lt gd rfl).2; rw [HSz8.out] at this; omega
                    · rcases hfr gu e with e | e
                      · exact HG7.out.lu e
                      · have := (HMk.out.2.2.lt gu rfl).2; rw [HSz8.out] at this; omega
                  obtain ⟨p8, c8, hv8⟩ : ∃ p c, v8 = .slice p (j + 1) c := (Rd.of_owns hown).shape
                  subst hv8
                  clear hown hmods hfr HO7 HG7 HMk hfu hcu hcd HSz8
                  go_wp2_with fail
                  go_round
                  case rel => exact ⟨j + 1, is ++ [x], c3, v7, by omega, by go_num, by show _ = _; rw [List.length_append, HJl.out]; rfl, HNx.out, HG8.out⟩
                  case measure => simp [intOf]; omega
            · have hj' : ¬ (j : Int) < (n : Int) := by omega
              obtain rfl : j = n := by omega
              have HNj : Hid (¬ is.length < j) := by show ¬ _; rw [HJl.out]; exact hj
              have hgu : Hid (∀ i, i < N → wr.cell? ⟨gu, i, none⟩ = some (.bool (is.contains i))) := fun i hi => by
                rw [HG.out.ur.cellAt i (by omega)]; exact usedV_get N is i hi
              clear hj
              go_wp2_with fail
              go_loop [17] (fun iv => ∃ (i : Nat), i ≤ N ∧ iv = .int .i64 (i : Int) ∧ Hid (∀ t, t < i → t ∈ is)) (fun iv => N - (intOf iv).toNat)
              case atStart => exact ⟨0, Nat.zero_le _, rfl, fun t ht => absurd ht (Nat.not_lt_zero _)⟩
              case round =>
                obtain ⟨i, hi, rfl, HU⟩ := hrel
                have hib : (i : Int) ≤ 128 := by omega
                by_cases hlt : i < N
                · have hlt' : (i : Int) < (N : Int) := by omega
                  have hci := hgu.out i hlt
                  by_cases hin : i ∈ is
                  · have hct : is.contains i = true := List.contains_iff_mem.2 hin
                    rw [hct] at hci
                    have HU2 : Hid (∀ t, t < i + 1 → t ∈ is) := fun t ht => by
                      by_cases e : t = i
                      · rw [e]; exact hin
                      · exact HU.out t (by omega)
                    clear hct hin
                    go_wp2_with fail
                    go_round
                    case rel => exact ⟨i + 1, by omega, by go_num, HU2.out⟩
                    case measure => simp [intOf]; omega
                  · have hct : is.contains i = false := by rw [← Bool.not_eq_true]; exact fun e => hin (List.contains_iff_mem.1 e)
                    rw [hct] at hci
                    have HR := Lib.hid (HG.out.gs.fails (HDX.out.trans (getD_unused HA.out HNj.out (by rw [HLen.out]; exact hlt) hin)))
                    clear hct hin
                    go_wp2_with fail
                    go_ret2
                    exact HR.out
                · have hlt' : ¬ (i : Int) < (N : Int) := by omega
                  have HD := Lib.hid (HDX.out.trans (getD_used HA.out HNj.out (fun t ht => HU.out t (by have := HLen.out; omega))))
                  go_wp2_with fail
                  go_ret2
                  rw [HD.out]
                  exact ⟨⟨_, rfl, Rd.of_owns (by have := HG.out.gs.row; rw [HVl.out] at this ⊢; exact this), fun k hk => (HG.out.gs.row.lt k hk).1⟩, ⟨v2, HG.out.gs.rd, HG.out.gs.own⟩, HG.out.gs.mods⟩
end Go.Proofs.Ytpphgmgdmdehpaa
