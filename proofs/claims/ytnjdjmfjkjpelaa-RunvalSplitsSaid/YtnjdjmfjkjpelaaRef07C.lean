/- Layer 7: the reference's Get. -/
import Derived.Test.YtnjdjmfjkjpelaaRunB
import Derived.Test.YtnjdjmfjkjpelaaGSu
set_option linter.unusedVariables false
namespace Go.Proofs.Ytnjdjmfjkjpelaa
open Go Go.RowKit

def lenV : Value → Nat
  | .slice _ n _ => n
  | _ => 0

set_option maxRecDepth 20000 in
set_option maxHeartbeats 16000000 in
theorem ref_get07 (q : Nat) (v : Value) (n : Nat) (bs : List Bool) (w : World) (h : RefIn w q v bs) (hb : bs.length ≤ 70368744177664) (hn : n ≤ 1000000) :
    Calls Try.prog 28 #[.pointer (some ⟨q, 0, none⟩), .int .i64 (n : Int)] w (GetPostV q w v (decR n bs)) := by
  have H := Lib.hid h
  have HNn := Lib.hid hn
  have HG0 : Hid (GSu q w v w (.slice none 0 0) [] v bs) := ⟨World.ownsRow_nil _ _ _ _, H.out, fun _ => rfl, Mods.refl _ _, H.out.blk.lt, fun hne k hk => H.out.rd.lt (fun e => hne (by simpa [bls] using e)) k hk, hb⟩
  clear h hn
  go_enter Try.func28, Try.ntmps28
  go_wp2_with fail
  go_loopw [6, 7] (fun lv cv wr => ∃ (acc : List Nat) (cnt : Nat) (bits : List Bool) (v' : Value), acc.length ≤ n ∧ cnt ≤ 128 ∧ cv = .int .i64 (cnt : Int) ∧ lenV lv = acc.length ∧ Hid (GetAtR n bs acc cnt bits) ∧ Hid (GSu q w v wr lv acc v' bits)) (fun lv _ _ => n - lenV lv)
  case atStart => exact ⟨[], 128, bs, v, Nat.zero_le _, Nat.le_refl _, rfl, rfl, getR_start n bs, HG0.out⟩
  case round =>
    obtain ⟨acc, cnt, bits, v0, han, hcnt, rfl, hlen, HA, HG⟩ := hrel
    obtain ⟨pa, ca, hva⟩ := (Rd.of_owns HG.out.row).shape
    subst hva
    obtain ⟨N, hN⟩ : ∃ N, acc.length = N := ⟨_, rfl⟩
    rw [hN] at han hlen
    have HNe : Hid (acc.length = N) := hN
    rw [hN] at HG
    rw [hN]
    have hNb : (N : Int) ≤ 1000000 := by have := HNn.out; omega
    have hcb : (cnt : Int) ≤ 128 := by omega
    clear hN hlen
    by_cases hj : N < n
    · have hj' : (N : Int) < (n : Int) := by omega
      have HJ : Hid (acc.length < n) := by show _ < _; rw [HNe.out]; exact hj
      by_cases h64 : bits.length < 64
      · have HE := Lib.hid (calls_flip (ref_rbits_eof q v0 64 bits wr HG.out.rd (by decide) h64))
        have HR := Lib.hid (HG.out.fails (getR_eof1 HA.out HJ.out h64))
        go_wp2_with fail
        refine HE.out.mono ?_
        rintro en w7 ⟨rfl, rfl⟩
        go_wp2_with fail
        go_ret2
        exact HR.out
      · have HF1 := Lib.hid (field_full h64)
        have hx64 := take_lt h64
        have HE1 := Lib.hid (ref_rbits q v0 64 bits wr HG.out.rd (by decide) (by omega) HG.out.len)
        clear h64
        go_wp2_with fail
        refine HE1.out.mono ?_
        rintro en w1 ⟨rfl, v1, hP⟩
        have HG1 := Lib.hid (HG.out.read hP)
        have HX := Lib.hid hx64
        generalize numOf (bits.take 64) = x at *
        generalize bits.drop 64 = b1 at *
        clear hP HE1 hx64 HG
        by_cases h7 : b1.length < 7
        · have HE := Lib.hid (calls_flip (ref_rbits_eof q v1 7 b1 w1 HG1.out.rd (by decide) h7))
          have HR := Lib.hid (HG1.out.fails (getR_eof2 HA.out HJ.out HF1.out h7))
          clear h7
          go_wp2_with fail
          refine HE.out.mono ?_
          rintro en w7 ⟨rfl, rfl⟩
          go_wp2_with fail
          go_ret2
          exact HR.out
        · have HF2 := Lib.hid (field_full h7)
          have hc7 := take_lt h7
          have HE2 := Lib.hid (ref_rbits q v1 7 b1 w1 HG1.out.rd (by decide) (by omega) HG1.out.len)
          clear h7
          go_wp2_with fail
          refine HE2.out.mono ?_
          rintro en w2 ⟨rfl, v2, hP⟩
          have HG2 := Lib.hid (HG1.out.read hP)
          generalize numOf (b1.take 7) = c at *
          generalize b1.drop 7 = b2 at *
          have hci : (c : Int) ≤ 127 := by omega
          have hwc : IntKind.i64.wrap (c : Int) = (c : Int) := IntWalk.i64_in _ (by omega)
          clear hP HE2 hc7 HG1
          by_cases hbig : n < N + c + 1
          · have hbi : (n : Int) < (N : Int) + (c : Int) + 1 := by omega
            have HR := Lib.hid (HG2.out.fails (getR_bad HA.out HJ.out HF1.out HF2.out (Or.inl (by rw [HNe.out]; exact hbig))))
            clear hbig
            go_wp2_with fail
            go_ret2
            exact HR.out
          · have hbi : ¬ (n : Int) < (N : Int) + (c : Int) + 1 := by omega
            have HBig : Hid (¬ n < acc.length + c + 1) := by show ¬ _; rw [HNe.out]; exact hbig
            clear hbig
            by_cases h0 : N = 0
            · have HAn : Hid (acc = []) := List.eq_nil_of_length_eq_zero (by rw [HNe.out]; exact h0)
              have hNz : ¬ (0 : Int) < (N : Int) := by omega
              clear h0
              have HNx := Lib.hid (getR_next HA.out HJ.out HF1.out HF2.out (fun h => by
                rcases h with h | h
                · exact HBig.out h
                · rw [HAn.out] at h; cases h.1))
              have HCn : Hid (N + c + 1 ≤ n) := by show _ ≤ _; have := HBig.out; have := HNe.out; omega
              clear HA HBig HF1 HF2
              go_wp2_with fail
              go_loopw [6, 11] (fun lv iv wr2 => ∃ (i : Nat), i ≤ c + 1 ∧ iv = .int .i64 (i : Int) ∧ lenV lv = N + i ∧ Hid (GSu q w v wr2 lv (acc ++ List.replicate i x) v2 b2)) (fun _ iv _ => c + 1 - (intOf iv).toNat)
              case atStart => exact ⟨0, by omega, rfl, rfl, by show GSu _ _ _ _ _ _ _ _; rw [List.replicate_zero, List.append_nil]; exact HG2.out⟩
              case round =>
                obtain ⟨i, hi, rfl, hlv, HGi⟩ := hrel
                have HLi : Hid ((acc ++ List.replicate i x).length = N + i) := by show _ = _; rw [List.length_append, List.length_replicate, HNe.out]
                obtain ⟨pi, ci, hvi⟩ := (Rd.of_owns HGi.out.row).shape
                rw [HLi.out] at hvi
                subst hvi
                have hib : (i : Int) ≤ 128 := by omega
                clear hlv
                by_cases hic : i < c + 1
                · have hic' : (i : Int) < (c : Int) + 1 := by omega
                  have HLb : Hid ((N + i + 1) * 8 ≤ 140737488355328 ∧ N + i + 1 ≤ maxLen) := by show _ ∧ _; have := HNn.out; have := HCn.out; unfold maxLen; omega
                  have HOi : Hid (wr.ownsRow 0 29 1 (.slice pi (N + i) ci) (N + i) (u64s (acc ++ List.replicate i x))) := by
                    have h := owns_rebase HGi.out.row (base' := 0) (fun _ _ => Nat.zero_le _)
                    rw [HLi.out] at h
                    exact h
                  generalize hVS : u64s (acc ++ List.replicate i x) = VS at *
                  have HVS := Lib.hid hVS
                  clear hVS
                  go_wp2_with (at_builtin; refine wpList_push Try.elemU64 wr #[.int .u64 (x : Int)] _ _ _ HOi.out rfl (one_cell _ rfl) HLb.out rfl _ _ rfl rfl rfl ?_)
                  intro v8 w8 hown hmods hfr
                  have HG8 : Hid (GSu q w v w8 v8 (acc ++ List.replicate (i + 1) x) v2 b2) := HGi.out.pushed (by
                    rw [List.replicate_succ', ← List.append_assoc, List.length_append, HLi.out, u64s_append, HVS.out]
                    exact hown) hmods hfr
                  obtain ⟨p8, c8, hv8⟩ : ∃ p c, v8 = .slice p (N + i + 1) c := (Rd.of_owns hown).shape
                  subst hv8
                  clear hown hmods hfr HOi
                  go_wp2_with fail
                  go_round
                  case rel => exact ⟨i + 1, by omega, by go_num, rfl, HG8.out⟩
                  case measure => simp [intOf]; omega
                · have hic' : ¬ (i : Int) < (c : Int) + 1 := by omega
                  have HIe : Hid (i = c + 1) := by show _ = _; omega
                  have HG9 : Hid (GSu q w v wr (.slice pi (N + i) ci) (acc ++ List.replicate (c + 1) x) v2 b2) := by
                    show GSu _ _ _ _ _ _ _ _
                    have h := HGi.out
                    rw [HIe.out] at h ⊢
                    exact h
                  have HL9 : Hid ((acc ++ List.replicate (c + 1) x).length = N + i) := by show _ = _; rw [List.length_append, List.length_replicate, HNe.out, HIe.out]
                  have hin : N + i ≤ n := by have := HCn.out; have := HIe.out; omega
                  have hip : 1 ≤ i := by have := HIe.out; omega
                  clear HGi HLi hic
                  go_wp2_with fail
                  go_round
                  case rel => exact ⟨_, c + 1, b2, v2, by rw [HL9.out]; exact hin, by omega, by go_num, by rw [HL9.out]; rfl, HNx.out, HG9.out⟩
                  case measure => simp [lenV]; omega
            · obtain ⟨k, hk⟩ : ∃ k, N = k + 1 := ⟨N - 1, by omega⟩
              have hNp : (0 : Int) < (N : Int) := by omega
              have hNk : (N : Int) - 1 = (k : Int) := by omega
              have hkN : (k : Int) < (N : Int) := by omega
              have hkb : (k : Int) ≤ 1000000 := by omega
              have HK : Hid (k < acc.length) := by show _ < _; rw [HNe.out]; omega
              obtain ⟨y, hy⟩ : ∃ y, acc[k]'HK.out = y := ⟨_, rfl⟩
              have HLast : Hid (acc.getLast? = some y) := by show _ = _; rw [List.getLast?_eq_getElem?, HNe.out, show N - 1 = k by omega, List.getElem?_eq_getElem HK.out, hy]
              obtain ⟨bx, ox, cx, e, hm1, hm2, hcx⟩ := (Rd.of_owns HG2.out.row).at (fun e => by have := congrArg List.length e; rw [u64s_length, HNe.out] at this; simp at this; omega)
              rw [HNe.out] at e
              simp only [Value.slice.injEq] at e
              obtain ⟨rfl, _, rfl⟩ := e
              have hcl : w2.cell? ⟨bx, ox + k, none⟩ = some (.int .u64 (y : Int)) := hcx k _ (by rw [u64s_get acc k HK.out, hy])
              clear hcx hm1 hm2 hk h0 hy
              by_cases hyx : y = x
              · subst hyx
                by_cases hc8 : cnt < 128
                · have hc8' : (cnt : Int) < 128 := by omega
                  have HR := Lib.hid (HG2.out.fails (getR_bad HA.out HJ.out HF1.out HF2.out (Or.inr ⟨HLast.out, hc8⟩)))
                  clear hc8
                  go_wp2_with fail
                  go_ret2
                  exact HR.out
                · have hc8' : ¬ (cnt : Int) < 128 := by omega
                  have HC8 : Hid (¬ cnt < 128) := hc8
                  clear hc8
                  have HNx := Lib.hid (getR_next HA.out HJ.out HF1.out HF2.out (fun h => by
                    rcases h with h | h
                    · exact HBig.out h
                    · exact HC8.out h.2))
                  have HCn : Hid (N + c + 1 ≤ n) := by show _ ≤ _; have := HBig.out; have := HNe.out; omega
                  clear HA HBig HF1 HF2
                  go_wp2_with fail
                  go_loopw [6, 11] (fun lv iv wr2 => ∃ (i : Nat), i ≤ c + 1 ∧ iv = .int .i64 (i : Int) ∧ lenV lv = N + i ∧ Hid (GSu q w v wr2 lv (acc ++ List.replicate i y) v2 b2)) (fun _ iv _ => c + 1 - (intOf iv).toNat)
                  case atStart => exact ⟨0, by omega, rfl, rfl, by show GSu _ _ _ _ _ _ _ _; rw [List.replicate_zero, List.append_nil]; exact HG2.out⟩
                  case round =>
                    obtain ⟨i, hi, rfl, hlv, HGi⟩ := hrel
                    have HLi : Hid ((acc ++ List.replicate i y).length = N + i) := by show _ = _; rw [List.length_append, List.length_replicate, HNe.out]
                    obtain ⟨pi, ci, hvi⟩ := (Rd.of_owns HGi.out.row).shape
                    rw [HLi.out] at hvi
                    subst hvi
                    have hib : (i : Int) ≤ 128 := by omega
                    clear hlv
                    by_cases hic : i < c + 1
                    · have hic' : (i : Int) < (c : Int) + 1 := by omega
                      have HLb : Hid ((N + i + 1) * 8 ≤ 140737488355328 ∧ N + i + 1 ≤ maxLen) := by show _ ∧ _; have := HNn.out; have := HCn.out; unfold maxLen; omega
                      have HOi : Hid (wr.ownsRow 0 29 1 (.slice pi (N + i) ci) (N + i) (u64s (acc ++ List.replicate i y))) := by
                        have h := owns_rebase HGi.out.row (base' := 0) (fun _ _ => Nat.zero_le _)
                        rw [HLi.out] at h
                        exact h
                      generalize hVS : u64s (acc ++ List.replicate i y) = VS at *
                      have HVS := Lib.hid hVS
                      clear hVS
                      go_wp2_with (at_builtin; refine wpList_push Try.elemU64 wr #[.int .u64 (y : Int)] _ _ _ HOi.out rfl (one_cell _ rfl) HLb.out rfl _ _ rfl rfl rfl ?_)
                      intro v8 w8 hown hmods hfr
                      have HG8 : Hid (GSu q w v w8 v8 (acc ++ List.replicate (i + 1) y) v2 b2) := HGi.out.pushed (by
                        rw [List.replicate_succ', ← List.append_assoc, List.length_append, HLi.out, u64s_append, HVS.out]
                        exact hown) hmods hfr
                      obtain ⟨p8, c8, hv8⟩ : ∃ p c, v8 = .slice p (N + i + 1) c := (Rd.of_owns hown).shape
                      subst hv8
                      clear hown hmods hfr HOi
                      go_wp2_with fail
                      go_round
                      case rel => exact ⟨i + 1, by omega, by go_num, rfl, HG8.out⟩
                      case measure => simp [intOf]; omega
                    · have hic' : ¬ (i : Int) < (c : Int) + 1 := by omega
                      have HIe : Hid (i = c + 1) := by show _ = _; omega
                      have HG9 : Hid (GSu q w v wr (.slice pi (N + i) ci) (acc ++ List.replicate (c + 1) y) v2 b2) := by
                        show GSu _ _ _ _ _ _ _ _
                        have h := HGi.out
                        rw [HIe.out] at h ⊢
                        exact h
                      have HL9 : Hid ((acc ++ List.replicate (c + 1) y).length = N + i) := by show _ = _; rw [List.length_append, List.length_replicate, HNe.out, HIe.out]
                      have hin : N + i ≤ n := by have := HCn.out; have := HIe.out; omega
                      have hip : 1 ≤ i := by have := HIe.out; omega
                      clear HGi HLi hic
                      go_wp2_with fail
                      go_round
                      case rel => exact ⟨_, c + 1, b2, v2, by rw [HL9.out]; exact hin, by omega, by go_num, by rw [HL9.out]; rfl, HNx.out, HG9.out⟩
                      case measure => simp [lenV]; omega
              · have hyb : ((y : Int) == (x : Int)) = false := by rw [beq_eq_false_iff_ne]; omega
                have hyn : ¬ (y : Int) = (x : Int) := by omega
                have HYx : Hid (y ≠ x) := hyx
                clear hyx
                have HNx := Lib.hid (getR_next HA.out HJ.out HF1.out HF2.out (fun h => by
                  rcases h with h | h
                  · exact HBig.out h
                  · rw [HLast.out] at h; exact HYx.out (Option.some.inj h.1)))
                have HCn : Hid (N + c + 1 ≤ n) := by show _ ≤ _; have := HBig.out; have := HNe.out; omega
                clear HA HBig HF1 HF2
                go_wp2_with fail
                go_loopw [6, 11] (fun lv iv wr2 => ∃ (i : Nat), i ≤ c + 1 ∧ iv = .int .i64 (i : Int) ∧ lenV lv = N + i ∧ Hid (GSu q w v wr2 lv (acc ++ List.replicate i x) v2 b2)) (fun _ iv _ => c + 1 - (intOf iv).toNat)
                case atStart => exact ⟨0, by omega, rfl, rfl, by show GSu _ _ _ _ _ _ _ _; rw [List.replicate_zero, List.append_nil]; exact HG2.out⟩
                case round =>
                  obtain ⟨i, hi, rfl, hlv, HGi⟩ := hrel
                  have HLi : Hid ((acc ++ List.replicate i x).length = N + i) := by show _ = _; rw [List.length_append, List.length_replicate, HNe.out]
                  obtain ⟨pi, ci, hvi⟩ := (Rd.of_owns HGi.out.row).shape
                  rw [HLi.out] at hvi
                  subst hvi
                  have hib : (i : Int) ≤ 128 := by omega
                  clear hlv
                  by_cases hic : i < c + 1
                  · have hic' : (i : Int) < (c : Int) + 1 := by omega
                    have HLb : Hid ((N + i + 1) * 8 ≤ 140737488355328 ∧ N + i + 1 ≤ maxLen) := by show _ ∧ _; have := HNn.out; have := HCn.out; unfold maxLen; omega
                    have HOi : Hid (wr.ownsRow 0 29 1 (.slice pi (N + i) ci) (N + i) (u64s (acc ++ List.replicate i x))) := by
                      have h := owns_rebase HGi.out.row (base' := 0) (fun _ _ => Nat.zero_le _)
                      rw [HLi.out] at h
                      exact h
                    generalize hVS : u64s (acc ++ List.replicate i x) = VS at *
                    have HVS := Lib.hid hVS
                    clear hVS
                    go_wp2_with (at_builtin; refine wpList_push Try.elemU64 wr #[.int .u64 (x : Int)] _ _ _ HOi.out rfl (one_cell _ rfl) HLb.out rfl _ _ rfl rfl rfl ?_)
                    intro v8 w8 hown hmods hfr
                    have HG8 : Hid (GSu q w v w8 v8 (acc ++ List.replicate (i + 1) x) v2 b2) := HGi.out.pushed (by
                      rw [List.replicate_succ', ← List.append_assoc, List.length_append, HLi.out, u64s_append, HVS.out]
                      exact hown) hmods hfr
                    obtain ⟨p8, c8, hv8⟩ : ∃ p c, v8 = .slice p (N + i + 1) c := (Rd.of_owns hown).shape
                    subst hv8
                    clear hown hmods hfr HOi
                    go_wp2_with fail
                    go_round
                    case rel => exact ⟨i + 1, by omega, by go_num, rfl, HG8.out⟩
                    case measure => simp [intOf]; omega
                  · have hic' : ¬ (i : Int) < (c : Int) + 1 := by omega
                    have HIe : Hid (i = c + 1) := by show _ = _; omega
                    have HG9 : Hid (GSu q w v wr (.slice pi (N + i) ci) (acc ++ List.replicate (c + 1) x) v2 b2) := by
                      show GSu _ _ _ _ _ _ _ _
                      have h := HGi.out
                      rw [HIe.out] at h ⊢
                      exact h
                    have HL9 : Hid ((acc ++ List.replicate (c + 1) x).length = N + i) := by show _ = _; rw [List.length_append, List.length_replicate, HNe.out, HIe.out]
                    have hin : N + i ≤ n := by have := HCn.out; have := HIe.out; omega
                    have hip : 1 ≤ i := by have := HIe.out; omega
                    clear HGi HLi hic
                    go_wp2_with fail
                    go_round
                    case rel => exact ⟨_, c + 1, b2, v2, by rw [HL9.out]; exact hin, by omega, by go_num, by rw [HL9.out]; rfl, HNx.out, HG9.out⟩
                    case measure => simp [lenV]; omega
    · have hj' : ¬ (N : Int) < (n : Int) := by omega
      have HD := Lib.hid (getR_done HA.out (by rw [HNe.out]; omega))
      go_wp2_with fail
      go_ret2
      rw [HD.out]
      exact ⟨⟨_, rfl, by have h := Rd.of_owns HG.out.row; exact h, fun k hk => (HG.out.row.lt k hk).1⟩, ⟨v0, HG.out.rd, HG.out.own⟩, HG.out.mods⟩
end Go.Proofs.Ytnjdjmfjkjpelaa
