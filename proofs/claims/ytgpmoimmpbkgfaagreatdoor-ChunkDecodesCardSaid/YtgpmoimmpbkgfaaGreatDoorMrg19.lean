/- Ref07C, Ref08C, Ref01E, Ref09C, in one text. -/
import Derived.Test.YtgpmoimmpbkgfaaGreatDoorMrg9
import Derived.Test.YtgpmoimmpbkgfaaGreatDoorMrg18
import Derived.Test.YtgpmoimmpbkgfaaGreatDoorMrg13
import Derived.Test.YtgpmoimmpbkgfaaGreatDoorMrg3
import Derived.Test.YtgpmoimmpbkgfaaGreatDoorMrg2
import Derived.Test.YtgpmoimmpbkgfaaGreatDoorMrg17
import Derived.Test.YtgpmoimmpbkgfaaGreatDoorMrg16
import Derived.Test.YtgpmoimmpbkgfaaGreatDoorMrg7
import Derived.Test.YtgpmoimmpbkgfaaGreatDoorMrg5

section
/- Layer 7: the reference's Get. -/
set_option linter.unusedVariables false
namespace Go.Proofs.YtgpmoimmpbkgfaaGreatDoor
open Go Go.RowKit

def lenV : Value → Nat
  | .slice _ n _ => n
  | _ => 0

set_option maxRecDepth 20000 in
set_option maxHeartbeats 16000000 in
theorem ref_get07 (q : Nat) (v : Value) (n : Nat) (bs : List Bool) (w : World) (h : RefIn w q v bs) (hb : bs.length ≤ 70368744177664) (hn : n ≤ 1000000) :
    Calls Tryz.prog 71 #[.pointer (some ⟨q, 0, none⟩), .int .i64 (n : Int)] w (GetPostV q w v (decR n bs)) := by
  have H := Lib.hid h
  have HNn := Lib.hid hn
  have HG0 : Hid (GSu q w v w (.slice none 0 0) [] v bs) := ⟨World.ownsRow_nil _ _ _ _, H.out, fun _ => rfl, Mods.refl _ _, H.out.blk.lt, fun hne k hk => H.out.rd.lt (fun e => hne (by simpa [bls] using e)) k hk, hb⟩
  clear h hn
  go_enter Tryz.func71, Tryz.ntmps71
  go_wp2_with fail
  go_loopw [6, 7] (fun lv cv wr => ∃ (acc : List Nat) (cnt : Nat) (bits : List Bool) (v' : Value), acc.length ≤ n ∧ cnt ≤ 128 ∧ cv = .int .i64 (cnt : Int) ∧ lenV lv = acc.length ∧ Hid (GetAtR n bs acc cnt bits) ∧ Hid (GSu q w v wr lv acc v' bits)) (fun lv _ _ => n - lenV lv)
  case atStart => exact ⟨[], 128, bs, v, Nat.zero_le _, Nat.le_refl _, rfl, rfl, getR_start n bs, HG0.out⟩
  case round =>
    obtain ⟨acc, cnt, bits, v0, han, hcnt, rfl, hlen, HA, HG⟩ := hrel
    obtain ⟨pa, ca, hva⟩ := (Rd.of_owns HG.out.row).shape
    subst hva
    obtain ⟨N, hN⟩ : ∃ N, acc.length = N := ⟨_, rfl⟩
    rw [hN] at han hlen
    have HNe : Hid (acc.length = N) := hN
    rw [hN] at HG
    rw [hN]
    have hNb : (N : Int) ≤ 1000000 := by have := HNn.out; omega
    have hcb : (cnt : Int) ≤ 128 := by omega
    clear hN hlen
    by_cases hj : N < n
    · have hj' : (N : Int) < (n : Int) := by omega
      have HJ : Hid (acc.length < n) := by show _ < _; rw [HNe.out]; exact hj
      by_cases h64 : bits.length < 64
      · have HE := Lib.hid (calls_flip (ref_rbits_eof q v0 64 bits wr HG.out.rd (by decide) h64))
        have HR := Lib.hid (HG.out.fails (getR_eof1 HA.out HJ.out h64))
        go_wp2_with fail
        refine HE.out.mono ?_
        rintro en w7 ⟨rfl, rfl⟩
        go_wp2_with fail
        go_ret2
        exact HR.out
      · have HF1 := Lib.hid (field_full h64)
        have hx64 := take_lt h64
        have HE1 := Lib.hid (ref_rbits q v0 64 bits wr HG.out.rd (by decide) (by omega) HG.out.len)
        clear h64
        go_wp2_with fail
        refine HE1.out.mono ?_
        rintro en w1 ⟨rfl, v1, hP⟩
        have HG1 := Lib.hid (HG.out.read hP)
        have HX := Lib.hid hx64
        generalize numOf (bits.take 64) = x at *
        generalize bits.drop 64 = b1 at *
        clear hP HE1 hx64 HG
        by_cases h7 : b1.length < 7
        · have HE := Lib.hid (calls_flip (ref_rbits_eof q v1 7 b1 w1 HG1.out.rd (by decide) h7))
          have HR := Lib.hid (HG1.out.fails (getR_eof2 HA.out HJ.out HF1.out h7))
          clear h7
          go_wp2_with fail
          refine HE.out.mono ?_
          rintro en w7 ⟨rfl, rfl⟩
          go_wp2_with fail
          go_ret2
          exact HR.out
        · have HF2 := Lib.hid (field_full h7)
          have hc7 := take_lt h7
          have HE2 := Lib.hid (ref_rbits q v1 7 b1 w1 HG1.out.rd (by decide) (by omega) HG1.out.len)
          clear h7
          go_wp2_with fail
          refine HE2.out.mono ?_
          rintro en w2 ⟨rfl, v2, hP⟩
          have HG2 := Lib.hid (HG1.out.read hP)
          generalize numOf (b1.take 7) = c at *
          generalize b1.drop 7 = b2 at *
          have hci : (c : Int) ≤ 127 := by omega
          have hwc : IntKind.i64.wrap (c : Int) = (c : Int) := IntWalk.i64_in _ (by omega)
          clear hP HE2 hc7 HG1
          by_cases hbig : n < N + c + 1
          · have hbi : (n : Int) < (N : Int) + (c : Int) + 1 := by omega
            have HR := Lib.hid (HG2.out.fails (getR_bad HA.out HJ.out HF1.out HF2.out (Or.inl (by rw [HNe.out]; exact hbig))))
            clear hbig
            go_wp2_with fail
            go_ret2
            exact HR.out
          · have hbi : ¬ (n : Int) < (N : Int) + (c : Int) + 1 := by omega
            have HBig : Hid (¬ n < acc.length + c + 1) := by show ¬ _; rw [HNe.out]; exact hbig
            clear hbig
            by_cases h0 : N = 0
            · have HAn : Hid (acc = []) := List.eq_nil_of_length_eq_zero (by rw [HNe.out]; exact h0)
              have hNz : ¬ (0 : Int) < (N : Int) := by omega
              clear h0
              have HNx := Lib.hid (getR_next HA.out HJ.out HF1.out HF2.out (fun h => by
                rcases h with h | h
                · exact HBig.out h
                · rw [HAn.out] at h; cases h.1))
              have HCn : Hid (N + c + 1 ≤ n) := by show _ ≤ _; have := HBig.out; have := HNe.out; omega
              clear HA HBig HF1 HF2
              go_wp2_with fail
              go_loopw [6, 11] (fun lv iv wr2 => ∃ (i : Nat), i ≤ c + 1 ∧ iv = .int .i64 (i : Int) ∧ lenV lv = N + i ∧ Hid (GSu q w v wr2 lv (acc ++ List.replicate i x) v2 b2)) (fun _ iv _ => c + 1 - (intOf iv).toNat)
              case atStart => exact ⟨0, by omega, rfl, rfl, by show GSu _ _ _ _ _ _ _ _; rw [List.replicate_zero, List.append_nil]; exact HG2.out⟩
              case round =>
                obtain ⟨i, hi, rfl, hlv, HGi⟩ := hrel
                have HLi : Hid ((acc ++ List.replicate i x).length = N + i) := by show _ = _; rw [List.length_append, List.length_replicate, HNe.out]
                obtain ⟨pi, ci, hvi⟩ := (Rd.of_owns HGi.out.row).shape
                rw [HLi.out] at hvi
                subst hvi
                have hib : (i : Int) ≤ 128 := by omega
                clear hlv
                by_cases hic : i < c + 1
                · have hic' : (i : Int) < (c : Int) + 1 := by omega
                  have HLb : Hid ((N + i + 1) * 8 ≤ 140737488355328 ∧ N + i + 1 ≤ maxLen) := by show _ ∧ _; have := HNn.out; have := HCn.out; unfold maxLen; omega
                  have HOi : Hid (wr.ownsRow 0 31 1 (.slice pi (N + i) ci) (N + i) (u64s (acc ++ List.replicate i x))) := by
                    have h := owns_rebase HGi.out.row (base' := 0) (fun _ _ => Nat.zero_le _)
                    rw [HLi.out] at h
                    exact h
                  generalize hVS : u64s (acc ++ List.replicate i x) = VS at *
                  have HVS := Lib.hid hVS
                  clear hVS
                  go_wp2_with (at_builtin; refine wpList_push Tryz.elemU64 wr #[.int .u64 (x : Int)] _ _ _ HOi.out rfl (one_cell _ rfl) HLb.out rfl _ _ rfl rfl rfl ?_)
                  intro v8 w8 hown hmods hfr
                  have HG8 : Hid (GSu q w v w8 v8 (acc ++ List.replicate (i + 1) x) v2 b2) := HGi.out.pushed (by
                    rw [List.replicate_succ', ← List.append_assoc, List.length_append, HLi.out, u64s_append, HVS.out]
                    exact hown) hmods hfr
                  obtain ⟨p8, c8, hv8⟩ : ∃ p c, v8 = .slice p (N + i + 1) c := (Rd.of_owns hown).shape
                  subst hv8
                  clear hown hmods hfr HOi
                  go_wp2_with fail
                  go_round
                  case rel => exact ⟨i + 1, by omega, by go_num, rfl, HG8.out⟩
                  case measure => simp [intOf]; omega
                · have hic' : ¬ (i : Int) < (c : Int) + 1 := by omega
                  have HIe : Hid (i = c + 1) := by show _ = _; omega
                  have HG9 : Hid (GSu q w v wr (.slice pi (N + i) ci) (acc ++ List.replicate (c + 1) x) v2 b2) := by
                    show GSu _ _ _ _ _ _ _ _
                    have h := HGi.out
                    rw [HIe.out] at h ⊢
                    exact h
                  have HL9 : Hid ((acc ++ List.replicate (c + 1) x).length = N + i) := by show _ = _; rw [List.length_append, List.length_replicate, HNe.out, HIe.out]
                  have hin : N + i ≤ n := by have := HCn.out; have := HIe.out; omega
                  have hip : 1 ≤ i := by have := HIe.out; omega
                  clear HGi HLi hic
                  go_wp2_with fail
                  go_round
                  case rel => exact ⟨_, c + 1, b2, v2, by rw [HL9.out]; exact hin, by omega, by go_num, by rw [HL9.out]; rfl, HNx.out, HG9.out⟩
                  case measure => simp [lenV]; omega
            · obtain ⟨k, hk⟩ : ∃ k, N = k + 1 := ⟨N - 1, by omega⟩
              have hNp : (0 : Int) < (N : Int) := by omega
              have hNk : (N : Int) - 1 = (k : Int) := by omega
              have hkN : (k : Int) < (N : Int) := by omega
              have hkb : (k : Int) ≤ 1000000 := by omega
              have HK : Hid (k < acc.length) := by show _ < _; rw [HNe.out]; omega
              obtain ⟨y, hy⟩ : ∃ y, acc[k]'HK.out = y := ⟨_, rfl⟩
              have HLast : Hid (acc.getLast? = some y) := by show _ = _; rw [List.getLast?_eq_getElem?, HNe.out, show N - 1 = k by omega, List.getElem?_eq_getElem HK.out, hy]
              obtain ⟨bx, ox, cx, e, hm1, hm2, hcx⟩ := (Rd.of_owns HG2.out.row).at (fun e => by have := congrArg List.length e; rw [u64s_length, HNe.out] at this; simp at this; omega)
              rw [HNe.out] at e
              simp only [Value.slice.injEq] at e
              obtain ⟨rfl, _, rfl⟩ := e
              have hcl : w2.cell? ⟨bx, ox + k, none⟩ = some (.int .u64 (y : Int)) := hcx k _ (by rw [u64s_get acc k HK.out, hy])
              clear hcx hm1 hm2 hk h0 hy
              by_cases hyx : y = x
              · subst hyx
                by_cases hc8 : cnt < 128
                · have hc8' : (cnt : Int) < 128 := by omega
                  have HR := Lib.hid (HG2.out.fails (getR_bad HA.out HJ.out HF1.out HF2.out (Or.inr ⟨HLast.out, hc8⟩)))
                  clear hc8
                  go_wp2_with fail
                  go_ret2
                  exact HR.out
                · have hc8' : ¬ (cnt : Int) < 128 := by omega
                  have HC8 : Hid (¬ cnt < 128) := hc8
                  clear hc8
                  have HNx := Lib.hid (getR_next HA.out HJ.out HF1.out HF2.out (fun h => by
                    rcases h with h | h
                    · exact HBig.out h
                    · exact HC8.out h.2))
                  have HCn : Hid (N + c + 1 ≤ n) := by show _ ≤ _; have := HBig.out; have := HNe.out; omega
                  clear HA HBig HF1 HF2
                  go_wp2_with fail
                  go_loopw [6, 11] (fun lv iv wr2 => ∃ (i : Nat), i ≤ c + 1 ∧ iv = .int .i64 (i : Int) ∧ lenV lv = N + i ∧ Hid (GSu q w v wr2 lv (acc ++ List.replicate i y) v2 b2)) (fun _ iv _ => c + 1 - (intOf iv).toNat)
                  case atStart => exact ⟨0, by omega, rfl, rfl, by show GSu _ _ _ _ _ _ _ _; rw [List.replicate_zero, List.append_nil]; exact HG2.out⟩
                  case round =>
                    obtain ⟨i, hi, rfl, hlv, HGi⟩ := hrel
                    have HLi : Hid ((acc ++ List.replicate i y).length = N + i) := by show _ = _; rw [List.length_append, List.length_replicate, HNe.out]
                    obtain ⟨pi, ci, hvi⟩ := (Rd.of_owns HGi.out.row).shape
                    rw [HLi.out] at hvi
                    subst hvi
                    have hib : (i : Int) ≤ 128 := by omega
                    clear hlv
                    by_cases hic : i < c + 1
                    · have hic' : (i : Int) < (c : Int) + 1 := by omega
                      have HLb : Hid ((N + i + 1) * 8 ≤ 140737488355328 ∧ N + i + 1 ≤ maxLen) := by show _ ∧ _; have := HNn.out; have := HCn.out; unfold maxLen; omega
                      have HOi : Hid (wr.ownsRow 0 31 1 (.slice pi (N + i) ci) (N + i) (u64s (acc ++ List.replicate i y))) := by
                        have h := owns_rebase HGi.out.row (base' := 0) (fun _ _ => Nat.zero_le _)
                        rw [HLi.out] at h
                        exact h
                      generalize hVS : u64s (acc ++ List.replicate i y) = VS at *
                      have HVS := Lib.hid hVS
                      clear hVS
                      go_wp2_with (at_builtin; refine wpList_push Tryz.elemU64 wr #[.int .u64 (y : Int)] _ _ _ HOi.out rfl (one_cell _ rfl) HLb.out rfl _ _ rfl rfl rfl ?_)
                      intro v8 w8 hown hmods hfr
                      have HG8 : Hid (GSu q w v w8 v8 (acc ++ List.replicate (i + 1) y) v2 b2) := HGi.out.pushed (by
                        rw [List.replicate_succ', ← List.append_assoc, List.length_append, HLi.out, u64s_append, HVS.out]
                        exact hown) hmods hfr
                      obtain ⟨p8, c8, hv8⟩ : ∃ p c, v8 = .slice p (N + i + 1) c := (Rd.of_owns hown).shape
                      subst hv8
                      clear hown hmods hfr HOi
                      go_wp2_with fail
                      go_round
                      case rel => exact ⟨i + 1, by omega, by go_num, rfl, HG8.out⟩
                      case measure => simp [intOf]; omega
                    · have hic' : ¬ (i : Int) < (c : Int) + 1 := by omega
                      have HIe : Hid (i = c + 1) := by show _ = _; omega
                      have HG9 : Hid (GSu q w v wr (.slice pi (N + i) ci) (acc ++ List.replicate (c + 1) y) v2 b2) := by
                        show GSu _ _ _ _ _ _ _ _
                        have h := HGi.out
                        rw [HIe.out] at h ⊢
                        exact h
                      have HL9 : Hid ((acc ++ List.replicate (c + 1) y).length = N + i) := by show _ = _; rw [List.length_append, List.length_replicate, HNe.out, HIe.out]
                      have hin : N + i ≤ n := by have := HCn.out; have := HIe.out; omega
                      have hip : 1 ≤ i := by have := HIe.out; omega
                      clear HGi HLi hic
                      go_wp2_with fail
                      go_round
                      case rel => exact ⟨_, c + 1, b2, v2, by rw [HL9.out]; exact hin, by omega, by go_num, by rw [HL9.out]; rfl, HNx.out, HG9.out⟩
                      case measure => simp [lenV]; omega
              · have hyb : ((y : Int) == (x : Int)) = false := by rw [beq_eq_false_iff_ne]; omega
                have hyn : ¬ (y : Int) = (x : Int) := by omega
                have HYx : Hid (y ≠ x) := hyx
                clear hyx
                have HNx := Lib.hid (getR_next HA.out HJ.out HF1.out HF2.out (fun h => by
                  rcases h with h | h
                  · exact HBig.out h
                  · rw [HLast.out] at h; exact HYx.out (Option.some.inj h.1)))
                have HCn : Hid (N + c + 1 ≤ n) := by show _ ≤ _; have := HBig.out; have := HNe.out; omega
                clear HA HBig HF1 HF2
                go_wp2_with fail
                go_loopw [6, 11] (fun lv iv wr2 => ∃ (i : Nat), i ≤ c + 1 ∧ iv = .int .i64 (i : Int) ∧ lenV lv = N + i ∧ Hid (GSu q w v wr2 lv (acc ++ List.replicate i x) v2 b2)) (fun _ iv _ => c + 1 - (intOf iv).toNat)
                case atStart => exact ⟨0, by omega, rfl, rfl, by show GSu _ _ _ _ _ _ _ _; rw [List.replicate_zero, List.append_nil]; exact HG2.out⟩
                case round =>
                  obtain ⟨i, hi, rfl, hlv, HGi⟩ := hrel
                  have HLi : Hid ((acc ++ List.replicate i x).length = N + i) := by show _ = _; rw [List.length_append, List.length_replicate, HNe.out]
                  obtain ⟨pi, ci, hvi⟩ := (Rd.of_owns HGi.out.row).shape
                  rw [HLi.out] at hvi
                  subst hvi
                  have hib : (i : Int) ≤ 128 := by omega
                  clear hlv
                  by_cases hic : i < c + 1
                  · have hic' : (i : Int) < (c : Int) + 1 := by omega
                    have HLb : Hid ((N + i + 1) * 8 ≤ 140737488355328 ∧ N + i + 1 ≤ maxLen) := by show _ ∧ _; have := HNn.out; have := HCn.out; unfold maxLen; omega
                    have HOi : Hid (wr.ownsRow 0 31 1 (.slice pi (N + i) ci) (N + i) (u64s (acc ++ List.replicate i x))) := by
                      have h := owns_rebase HGi.out.row (base' := 0) (fun _ _ => Nat.zero_le _)
                      rw [HLi.out] at h
                      exact h
                    generalize hVS : u64s (acc ++ List.replicate i x) = VS at *
                    have HVS := Lib.hid hVS
                    clear hVS
                    go_wp2_with (at_builtin; refine wpList_push Tryz.elemU64 wr #[.int .u64 (x : Int)] _ _ _ HOi.out rfl (one_cell _ rfl) HLb.out rfl _ _ rfl rfl rfl ?_)
                    intro v8 w8 hown hmods hfr
                    have HG8 : Hid (GSu q w v w8 v8 (acc ++ List.replicate (i + 1) x) v2 b2) := HGi.out.pushed (by
                      rw [List.replicate_succ', ← List.append_assoc, List.length_append, HLi.out, u64s_append, HVS.out]
                      exact hown) hmods hfr
                    obtain ⟨p8, c8, hv8⟩ : ∃ p c, v8 = .slice p (N + i + 1) c := (Rd.of_owns hown).shape
                    subst hv8
                    clear hown hmods hfr HOi
                    go_wp2_with fail
                    go_round
                    case rel => exact ⟨i + 1, by omega, by go_num, rfl, HG8.out⟩
                    case measure => simp [intOf]; omega
                  · have hic' : ¬ (i : Int) < (c : Int) + 1 := by omega
                    have HIe : Hid (i = c + 1) := by show _ = _; omega
                    have HG9 : Hid (GSu q w v wr (.slice pi (N + i) ci) (acc ++ List.replicate (c + 1) x) v2 b2) := by
                      show GSu _ _ _ _ _ _ _ _
                      have h := HGi.out
                      rw [HIe.out] at h ⊢
                      exact h
                    have HL9 : Hid ((acc ++ List.replicate (c + 1) x).length = N + i) := by show _ = _; rw [List.length_append, List.length_replicate, HNe.out, HIe.out]
                    have hin : N + i ≤ n := by have := HCn.out; have := HIe.out; omega
                    have hip : 1 ≤ i := by have := HIe.out; omega
                    clear HGi HLi hic
                    go_wp2_with fail
                    go_round
                    case rel => exact ⟨_, c + 1, b2, v2, by rw [HL9.out]; exact hin, by omega, by go_num, by rw [HL9.out]; rfl, HNx.out, HG9.out⟩
                    case measure => simp [lenV]; omega
    · have hj' : ¬ (N : Int) < (n : Int) := by omega
      have HD := Lib.hid (getR_done HA.out (by rw [HNe.out]; omega))
      go_wp2_with fail
      go_ret2
      rw [HD.out]
      exact ⟨⟨_, rfl, by have h := Rd.of_owns HG.out.row; exact h, fun k hk => (HG.out.row.lt k hk).1⟩, ⟨v0, HG.out.rd, HG.out.own⟩, HG.out.mods⟩
end Go.Proofs.YtgpmoimmpbkgfaaGreatDoor

end

section
/- Layer 8: the reference's Get. -/
set_option linter.unusedVariables false
namespace Go.Proofs.YtgpmoimmpbkgfaaGreatDoor
open Go Go.RowKit

theorem GSu.other {S : Nat → Prop} {q : Nat} {w0 wr w' : World} {v lv v' : Value} {acc : List Nat} {bits : List Bool} (h : GSu q w0 v wr lv acc v' bits) (hm : Mods S wr w') (hS : ∀ k, S k → w0.heap.size ≤ k ∧ lv.ownBlock ≠ some k) : GSu q w0 v w' lv acc v' bits := by
  have hlt := h.lt
  refine ⟨hm.owns h.row (fun k hk e => (hS k e).2 hk), h.rd.mods hm (fun e => by have := (hS q e).1; omega) (fun hne k hk e => ?_), h.own, h.mods.trans hm (fun k hk e => by have := (hS k e).1; omega), h.lt, h.vlt, h.len⟩
  rw [h.own hne] at hk
  have := h.vlt hne k hk; have := (hS k e).1; omega

/-- The dictionary, the flags and the values read, in rows of the call's own. -/
structure GD (q : Nat) (w0 : World) (v : Value) (wr : World) (gd cd gu cu N : Nat) (d is : List Nat) (lv v' : Value) (bits : List Bool) : Prop where
  gs : GSu q w0 v wr lv (valsD d is) v' bits
  dr : wr.ownsRow w0.heap.size 31 1 (.slice (some ⟨gd, 0, none⟩) N cd) N (u64s d)
  ur : wr.ownsRow w0.heap.size 4 1 (.slice (some ⟨gu, 0, none⟩) N cu) N (usedV N is)
  ld : lv.ownBlock ≠ some gd
  lu : lv.ownBlock ≠ some gu
  du : gd ≠ gu
theorem GSu.fresh {q : Nat} {w0 wr : World} {v lv v' : Value} {acc : List Nat} {bits : List Bool} (h : GSu q w0 v wr lv acc v' bits) : GSu q w0 v wr (.slice none 0 0) [] v' bits := ⟨World.ownsRow_nil _ _ _ _, h.rd, h.own, h.mods, h.lt, h.vlt, h.len⟩
theorem GD.read {q gd cd gu cu N n : Nat} {w0 wr w' : World} {d is : List Nat} {v lv v' v'' : Value} {bits : List Bool} (h : GD q w0 v wr gd cd gu cu N d is lv v' bits) (k : RefBitsPost q v' (bits.drop n) wr v'' w') : GD q w0 v w' gd cd gu cu N d is lv v'' (bits.drop n) := by
  have hlt := h.gs.lt
  refine ⟨h.gs.read k, k.mods.owns h.dr (fun j hj e => ?_), k.mods.owns h.ur (fun j hj e => ?_), h.ld, h.lu, h.du⟩
  · have := (h.dr.lt j hj).1; omega
  · have := (h.ur.lt j hj).1; omega
theorem GD.mark {q gd cd gu cu N x : Nat} {w0 wr : World} {d is : List Nat} {v lv v' : Value} {bits : List Bool} (h : GD q w0 v wr gd cd gu cu N d is lv v' bits) (hx : x < N) :
    GSu q w0 v (wr.setCell ⟨gu, x, none⟩ (.bool true)) lv (valsD d is) v' bits ∧ (wr.setCell ⟨gu, x, none⟩ (.bool true)).ownsRow w0.heap.size 31 1 (.slice (some ⟨gd, 0, none⟩) N cd) N (u64s d) ∧ (wr.setCell ⟨gu, x, none⟩ (.bool true)).ownsRow w0.heap.size 4 1 (.slice (some ⟨gu, 0, none⟩) N cu) N (usedV N (is ++ [x])) := by
  have hm : Mods (fun k => k = gu) wr (wr.setCell ⟨gu, x, none⟩ (.bool true)) := Mods.set _ _ _ _ (fun _ => rfl)
  refine ⟨h.gs.other hm (fun k e => by subst e; exact ⟨(h.ur.lt k rfl).1, h.lu⟩), hm.owns h.dr (fun k hk e => h.du ((Option.some.inj hk).trans e)), ?_⟩
  rw [← usedV_set N is x hx]
  exact (h.ur.stored x _).1

set_option maxRecDepth 20000 in
set_option maxHeartbeats 4000000 in
theorem ref_get08 (q : Nat) (v : Value) (n : Nat) (bs : List Bool) (w : World) (h : RefIn w q v bs) (hb : bs.length ≤ 70368744177664) (hn : n ≤ 1000000) :
    Calls Tryz.prog 72 #[.pointer (some ⟨q, 0, none⟩), .int .i64 (n : Int)] w (GetPostV q w v (decD n bs)) := by
  have H := Lib.hid h
  have HNn := Lib.hid hn
  have HG0 : Hid (GSu q w v w (.slice none 0 0) [] v bs) := ⟨World.ownsRow_nil _ _ _ _, H.out, fun _ => rfl, Mods.refl _ _, H.out.blk.lt, fun hne k hk => H.out.rd.lt (fun e => hne (by simpa [bls] using e)) k hk, hb⟩
  clear h
  by_cases h0 : n = 0
  · subst h0
    have HR := Lib.hid (HG0.out.fails (getD_none bs))
    go_enter Tryz.func72, Tryz.ntmps72
    go_wp2_with fail
    go_ret2
    exact HR.out
  · have hnz : ¬ (n : Int) = 0 := by omega
    have hnzb : ((n : Int) == 0) = false := by rw [beq_eq_false_iff_ne]; exact hnz
    have hnb : (n : Int) ≤ 1000000 := by omega
    by_cases h7 : bs.length < 7
    · have HE := Lib.hid (calls_flip (ref_rbits_eof q v 7 bs w HG0.out.rd (by decide) h7))
      have HR := Lib.hid (HG0.out.fails (getD_eof7 h0 h7))
      clear h0 h7 hb hn
      go_enter Tryz.func72, Tryz.ntmps72
      go_wp2_with fail
      refine HE.out.mono ?_
      rintro en w7 ⟨rfl, rfl⟩
      go_wp2_with fail
      go_ret2
      exact HR.out
    · have HF := Lib.hid (field_full h7)
      have hk7 := take_lt h7
      have HE1 := Lib.hid (ref_rbits q v 7 bs w HG0.out.rd (by decide) (by omega) HG0.out.len)
      have HDW := Lib.hid (getD_words h0 HF.out)
      clear h7 h0 hb hn
      go_enter Tryz.func72, Tryz.ntmps72
      go_wp2_with fail
      refine HE1.out.mono ?_
      rintro en w1 ⟨rfl, v1, hP⟩
      have HG1 := Lib.hid (HG0.out.read hP)
      clear hP HE1 HF HG0
      generalize numOf (bs.take 7) = k at *
      generalize bs.drop 7 = b1 at *
      have hkb : (k : Int) ≤ 127 := by have : k < 128 := by simpa using hk7
                                       omega
      have hwk : IntKind.i64.wrap (k : Int) = (k : Int) := IntWalk.i64_in _ (by omega)
      clear hk7
      go_wp2_with fail
      go_loopw [8, 9] (fun dv iv wr => ∃ (i : Nat) (acc : List Nat) (bits : List Bool) (v' : Value), i ≤ k + 1 ∧ iv = .int .i64 (i : Int) ∧ Hid (acc.length = i) ∧ Hid (WAt k b1 acc bits) ∧ Hid (GSu q w v wr dv acc v' bits)) (fun _ iv _ => k + 1 - (intOf iv).toNat)
      case atStart => exact ⟨0, [], b1, v1, by omega, rfl, rfl, wat_start k b1, HG1.out⟩
      case round =>
        obtain ⟨i, acc, bits, v0, hik, rfl, HLen, HA, HG⟩ := hrel
        obtain ⟨pa, ca, hva⟩ := (Rd.of_owns HG.out.row).shape
        rw [HLen.out] at hva
        subst hva
        have hib : (i : Int) ≤ 128 := by omega
        by_cases hi : i < k + 1
        · have hi' : (i : Int) ≤ (k : Int) := by omega
          have HI : Hid (acc.length < k + 1) := by show _ < _; rw [HLen.out]; exact hi
          by_cases h64 : bits.length < 64
          · have HE := Lib.hid (calls_flip (ref_rbits_eof q v0 64 bits wr HG.out.rd (by decide) h64))
            have HR := Lib.hid (HG.out.fails (HDW.out.trans (getD_weof HA.out HI.out h64)))
            clear h64
            go_wp2_with fail
            refine HE.out.mono ?_
            rintro en w7 ⟨rfl, rfl⟩
            go_wp2_with fail
            go_ret2
            exact HR.out
          · have HF := Lib.hid (field_full h64)
            have HE := Lib.hid (ref_rbits q v0 64 bits wr HG.out.rd (by decide) (by omega) HG.out.len)
            clear h64
            go_wp2_with fail
            refine HE.out.mono ?_
            rintro en w7 ⟨rfl, v7, hP⟩
            have HG7 := Lib.hid (HG.out.read hP)
            generalize numOf (bits.take 64) = x at *
            generalize bits.drop 64 = c2 at *
            clear hP HE
            have HLb : Hid ((i + 1) * 8 ≤ 140737488355328 ∧ i + 1 ≤ maxLen) := by show _ ∧ _; unfold maxLen; omega
            have HO7 : Hid (w7.ownsRow 0 31 1 (.slice pa i ca) i (u64s acc)) := by
              have h := owns_rebase HG7.out.row (base' := 0) (fun _ _ => Nat.zero_le _)
              rw [HLen.out] at h
              exact h
            by_cases h0 : i = 0
            · have HNx := Lib.hid (getD_wnext HA.out HI.out HF.out (fun hne => absurd (List.eq_nil_of_length_eq_zero (by rw [HLen.out]; exact h0)) hne))
              have hz : ¬ (0 : Int) < (i : Int) := by omega
              clear h0
              go_wp2_with (at_builtin; refine wpList_push Tryz.elemU64 w7 #[.int .u64 (x : Int)] _ _ _ HO7.out rfl (one_cell _ rfl) HLb.out rfl _ _ rfl rfl rfl ?_)
              intro v8 w8 hown hmods hfr
              have HG8 : Hid (GSu q w v w8 v8 (acc ++ [x]) v7 c2) := HG7.out.pushed (by rw [List.length_append, HLen.out, u64s_append]; exact hown) hmods hfr
              obtain ⟨p8, c8, hv8⟩ : ∃ p c, v8 = .slice p (i + 1) c := (Rd.of_owns hown).shape
              subst hv8
              clear hown hmods hfr HO7 HG7 HG
              go_wp2_with fail
              go_round
              case rel => exact ⟨i + 1, acc ++ [x], c2, v7, by omega, by go_num, by show _ = _; rw [List.length_append, HLen.out]; rfl, HNx.out, HG8.out⟩
              case measure => simp [intOf]; omega
            · obtain ⟨m, rfl⟩ : ∃ m, i = m + 1 := ⟨i - 1, by omega⟩
              have hz : (0 : Int) < ((m + 1 : Nat) : Int) := by omega
              have hm1 : ((m + 1 : Nat) : Int) - 1 = (m : Int) := by omega
              have HAne : Hid (acc ≠ []) := fun e => by have := HLen.out; rw [e] at this; cases this
              obtain ⟨y, hy⟩ : ∃ y, acc[m]'(by have := HLen.out; omega) = y := ⟨_, rfl⟩
              have HY : Hid (acc.getLastD 0 = y) := by
                show _ = _
                rw [List.getLastD_eq_getLast?, List.getLast?_eq_getElem?, HLen.out, Nat.add_sub_cancel, List.getElem?_eq_getElem (by have := HLen.out; omega), hy]; rfl
              obtain ⟨bx, ox, cx, e, hmm1, hmm2, hcx⟩ := (Rd.of_owns HG7.out.row).at (fun e => by have := congrArg List.length e; rw [u64s_length, HLen.out] at this; simp at this)
              simp only [Value.slice.injEq] at e
              obtain ⟨rfl, hil, rfl⟩ := e
              have hcl : w7.cell? ⟨bx, ox + m, none⟩ = some (.int .u64 (y : Int)) := by rw [← hy]; exact hcx m _ (u64s_get acc m (by have := HLen.out; omega))
              clear hcx hmm1 hmm2 hil hy h0
              have hmb : (m : Int) < ((m + 1 : Nat) : Int) := by omega
              have hm0 : (0 : Int) ≤ (m : Int) := by omega
              by_cases hxy : x ≤ y
              · have hxy' : (x : Int) ≤ (y : Int) := by omega
                have HR := Lib.hid (HG7.out.fails (HDW.out.trans (getD_wbad (n := n) HA.out HI.out HF.out HAne.out (by rw [HY.out]; exact hxy))))
                clear hxy
                go_wp2_with fail
                go_ret2
                exact HR.out
              · have hxy' : ¬ (x : Int) ≤ (y : Int) := by omega
                have HNx := Lib.hid (getD_wnext HA.out HI.out HF.out (fun _ => by rw [HY.out]; omega))
                clear hxy
                go_wp2_with (at_builtin; refine wpList_push Tryz.elemU64 w7 #[.int .u64 (x : Int)] _ _ _ HO7.out rfl (one_cell _ rfl) HLb.out rfl _ _ rfl rfl rfl ?_)
                intro v8 w8 hown hmods hfr
                have HG8 : Hid (GSu q w v w8 v8 (acc ++ [x]) v7 c2) := HG7.out.pushed (by rw [List.length_append, HLen.out, u64s_append]; exact hown) hmods hfr
                obtain ⟨p8, c8, hv8⟩ : ∃ p c, v8 = .slice p (m + 1 + 1) c := (Rd.of_owns hown).shape
                subst hv8
                clear hown hmods hfr HO7 HG7 HG hcl
                go_wp2_with fail
                go_round
                case rel => exact ⟨m + 1 + 1, acc ++ [x], c2, v7, by omega, by go_num, by show _ = _; rw [List.length_append, HLen.out]; rfl, HNx.out, HG8.out⟩
                case measure => simp [intOf]; omega
        · have hi' : ¬ (i : Int) ≤ (k : Int) := by omega
          obtain ⟨e1, e2, e3⟩ := getD_wdone (n := n) HA.out (by rw [HLen.out]; exact hi)
          have HDX : Hid (decD n bs = decIx acc n bits) := HDW.out.trans e3
          clear e1 e2 e3
          obtain rfl : i = k + 1 := by omega
          clear hi hik hib
          obtain ⟨N, hN⟩ : ∃ N, k + 1 = N := ⟨_, rfl⟩
          have hNk : (k : Int) + 1 = (N : Int) := by omega
          rw [hN] at HLen HG ⊢
          have hNb : (N : Int) ≤ 128 := by omega
          have hN1 : (1 : Int) ≤ (N : Int) := by omega
          have hNk2 : ¬ (N : Int) ≤ (k : Int) := by omega
          obtain ⟨i0, hi0, hz0, hz1, hz2⟩ := info_parts Tryz.infoBool
          have HI := Lib.hid hi0; have HZ := Lib.hid hz0; have HZ1 := Lib.hid hz1
          have HZ2 : Hid (i0.bytes * N ≤ 281474976710656 ∧ N ≤ maxLen) := by show _ ∧ _; unfold maxLen; rw [hz2]; omega
          have HSz : Hid (w.heap.size ≤ wr.heap.size) := HG.out.mods.size
          clear hi0 hz0 hz1 hz2 hi' HDW HA
          go_wp2_with (refine wpList_make_full _ rfl _ _ _ rfl w.heap.size 4 i0 (.bool false) 1 Tryz.underlying51 HI.out HZ.out HZ1.out _ _ _ _ N rfl rfl rfl rfl HZ2.out.1 HZ2.out.2 HSz.out ?_)
          intro w4 hown hgr
          obtain ⟨gd, cd, hvd⟩ : ∃ g cap, (Value.slice pa N ca) = .slice (some ⟨g, 0, none⟩) N cap := by
            rcases owns_cases HG.out.row with ⟨_, h0, _⟩ | ⟨g, cap, hv, _⟩
            · rw [HLen.out] at h0; omega
            · rw [HLen.out] at hv; exact ⟨g, cap, hv⟩
          simp only [Value.slice.injEq] at hvd
          obtain ⟨rfl, _, rfl⟩ := hvd
          have HGD : Hid (GD q w v w4 gd ca wr.heap.size N N acc [] (.slice none 0 0) v0 bits) := by
            have hb4 : Below wr.heap.size wr w4 := (Mods.of_grown hgr).below (Nat.le_refl _) (fun k _ e => by cases e)
            have hr := HG.out.row
            rw [HLen.out] at hr
            refine ⟨HG.out.fresh.below hb4, (Mods.of_below hb4 (fun _ => False)).owns hr (fun _ _ e => e), ?_, (fun e => by cases e), (fun e => by cases e), fun e => ?_⟩
            · rw [toList_madeCells_one, ← usedV_nil] at hown
              exact hown
            · have := (hr.lt gd rfl).2; omega
          have HA2 := Lib.hid (iat_start acc.length n bits)
          clear hown hgr HG HSz HZ2 HZ1 HZ HI
          generalize wr.heap.size = gu at *
          go_wp2_with fail
          go_loopw [13, 14] (fun lv iv wr => ∃ (j : Nat) (is : List Nat) (c2 : List Bool) (v' : Value), j ≤ n ∧ iv = .int .i64 (j : Int) ∧ Hid (is.length = j) ∧ Hid (IAt acc.length n bits is c2) ∧ Hid (GD q w v wr gd ca gu N N acc is lv v' c2)) (fun _ iv _ => n - (intOf iv).toNat)
          case atStart => exact ⟨0, [], bits, v0, by omega, rfl, rfl, HA2.out, HGD.out⟩
          case round =>
            obtain ⟨j, is, c2, v2, hjn, rfl, HJl, HA, HG⟩ := hrel
            have HVl : Hid ((valsD acc is).length = j) := by show _ = _; rw [valsD, List.length_map, HJl.out]
            obtain ⟨pl, cl, hvl⟩ := (Rd.of_owns HG.out.gs.row).shape
            rw [HVl.out] at hvl
            subst hvl
            have hjb : (j : Int) ≤ 1000000 := by omega
            by_cases hj : j < n
            · have hj' : (j : Int) < (n : Int) := by omega
              have HJ : Hid (is.length < n) := by show _ < _; rw [HJl.out]; exact hj
              have HWd := Lib.hid (ref_width08 (N : Int) wr (by omega))
              have HWi : Hid (widthI (N : Int) = ((widthD N : Nat) : Int)) := by show _ = _; rw [widthI, Int.toNat_natCast]
              have HWb : Hid (widthD N ≤ 7) := width_le (by omega)
              have HWe : Hid (widthD acc.length = widthD N) := by show _ = _; rw [HLen.out]
              generalize widthD N = W at *
              have hwb : (W : Int) ≤ 7 := by have := HWb.out; omega
              by_cases hsh : c2.length < W
              · have HE := Lib.hid (calls_flip (ref_rbits_eof q v2 W c2 wr HG.out.gs.rd (by omega) hsh))
                have HR := Lib.hid (HG.out.gs.fails (HDX.out.trans (getD_ieof HA.out HJ.out (by rw [HWe.out]; exact hsh))))
                clear hsh
                go_wp2_with fail
                refine HWd.out.mono ?_
                rintro e w8 ⟨rfl, h8⟩
                obtain rfl := h8.symm
                rw [HWi.out]
                go_wp2_with fail
                refine HE.out.mono ?_
                rintro en w7 ⟨rfl, rfl⟩
                go_wp2_with fail
                go_ret2
                exact HR.out
              · have HF := Lib.hid (field_full hsh)
                have hx7 := Nat.lt_of_lt_of_le (take_lt hsh) (Nat.pow_le_pow_right (by decide) HWb.out : 2 ^ W ≤ 2 ^ 7)
                have HE := Lib.hid (ref_rbits q v2 W c2 wr HG.out.gs.rd (by omega) (by omega) HG.out.gs.len)
                rw [← HWe.out] at HF
                clear hsh
                go_wp2_with fail
                refine HWd.out.mono ?_
                rintro e w8 ⟨rfl, h8⟩
                obtain rfl := h8.symm
                rw [HWi.out]
                go_wp2_with fail
                refine HE.out.mono ?_
                rintro en w7 ⟨rfl, v7, hP⟩
                have HG7 := Lib.hid (HG.out.read hP)
                rw [HWe.out] at HF
                generalize numOf (c2.take W) = x at *
                generalize c2.drop W = c3 at *
                rw [← HWe.out] at HF
                have hxb : (x : Int) < 128 := by have : x < 128 := by simpa using hx7
                                                 omega
                have hwx : IntKind.i64.wrap (x : Int) = (x : Int) := IntWalk.i64_in _ (by omega)
                clear hP HE hx7 HWd HG
                by_cases hN : N ≤ x
                · have hN' : (N : Int) ≤ (x : Int) := by omega
                  have HR := Lib.hid (HG7.out.gs.fails (HDX.out.trans (getD_ibad HA.out HJ.out HF.out (by rw [HLen.out]; exact hN))))
                  clear hN
                  go_wp2_with fail
                  go_ret2
                  exact HR.out
                · have hN' : ¬ (N : Int) ≤ (x : Int) := by omega
                  have hxN : x < N := by omega
                  have hxi : (x : Int) < (N : Int) := by omega
                  have HNx := Lib.hid (getD_inext HA.out HJ.out HF.out (by rw [HLen.out]; exact hxN))
                  have HMk := Lib.hid (HG7.out.mark hxN)
                  have hfu := HG7.out.ur.frozenAt x
                  have hcu : w7.cell? ⟨gu, x, none⟩ = some (.bool (is.contains x)) := by rw [HG7.out.ur.cellAt x (by omega)]; exact usedV_get N is x hxN
                  have hcd : (w7.setCell ⟨gu, x, none⟩ (.bool true)).cell? ⟨gd, x, none⟩ = some (.int .u64 ((acc.getD x 0 : Nat) : Int)) := by
                    rw [HMk.out.2.1.cellAt x (by omega), u64s_get acc x (by rw [HLen.out]; exact hxN), List.getD_eq_getElem?_getD, List.getElem?_eq_getElem (by rw [HLen.out]; exact hxN)]; rfl
                  have HVs := Lib.hid (valsD_snoc acc is x)
                  generalize acc.getD x 0 = y at *
                  clear hN hxN
                  have HSz8 : Hid ((w7.setCell ⟨gu, x, none⟩ (.bool true)).heap.size = w7.heap.size) := by
                    show _ = _
                    exact World.size_setCell ..
                  have HLb : Hid ((j + 1) * 8 ≤ 140737488355328 ∧ j + 1 ≤ maxLen) := by show _ ∧ _; unfold maxLen; omega
                  have HO7 : Hid ((w7.setCell ⟨gu, x, none⟩ (.bool true)).ownsRow 0 31 1 (.slice pl j cl) j (u64s (valsD acc is))) := by
                    have h := owns_rebase HMk.out.1.row (base' := 0) (fun _ _ => Nat.zero_le _)
                    rw [HVl.out] at h
                    exact h
                  go_wp2_with (at_builtin; refine wpList_push Tryz.elemU64 (w7.setCell ⟨gu, x, none⟩ (.bool true)) #[.int .u64 (y : Int)] _ _ _ HO7.out rfl (one_cell _ rfl) HLb.out rfl _ _ rfl rfl (by show _ = Value.slice (some ⟨_, 0, none⟩) 1 1; rw [HSz8.out]; rfl) ?_)
                  intro v8 w8 hown hmods hfr
                  have HG8 : Hid (GD q w v w8 gd ca gu N N acc (is ++ [x]) v8 v7 c3) := by
                    refine ⟨?_, hmods.owns HMk.out.2.1 (fun k hk e => HG7.out.ld (by rw [e, ← hk]; rfl)), hmods.owns HMk.out.2.2 (fun k hk e => HG7.out.lu (by rw [e, ← hk]; rfl)), fun e => ?_, fun e => ?_, HG7.out.du⟩
                    · rw [HVs.out]
                      exact HMk.out.1.pushed (by rw [List.length_append, HVl.out, u64s_append]; exact hown) hmods (by rw [HSz8.out]; exact hfr)
                    · rcases hfr gd e with e | e
                      · exact HG7.out.ld e
                      · have := (HMk.out.2.1.lt gd rfl).2; rw [HSz8.out] at this; omega
                    · rcases hfr gu e with e | e
                      · exact HG7.out.lu e
                      · have := (HMk.out.2.2.lt gu rfl).2; rw [HSz8.out] at this; omega
                  obtain ⟨p8, c8, hv8⟩ : ∃ p c, v8 = .slice p (j + 1) c := (Rd.of_owns hown).shape
                  subst hv8
                  clear hown hmods hfr HO7 HG7 HMk hfu hcu hcd HSz8
                  go_wp2_with fail
                  go_round
                  case rel => exact ⟨j + 1, is ++ [x], c3, v7, by omega, by go_num, by show _ = _; rw [List.length_append, HJl.out]; rfl, HNx.out, HG8.out⟩
                  case measure => simp [intOf]; omega
            · have hj' : ¬ (j : Int) < (n : Int) := by omega
              obtain rfl : j = n := by omega
              have HNj : Hid (¬ is.length < j) := by show ¬ _; rw [HJl.out]; exact hj
              have hgu : Hid (∀ i, i < N → wr.cell? ⟨gu, i, none⟩ = some (.bool (is.contains i))) := fun i hi => by
                rw [HG.out.ur.cellAt i (by omega)]; exact usedV_get N is i hi
              clear hj
              go_wp2_with fail
              go_loop [17] (fun iv => ∃ (i : Nat), i ≤ N ∧ iv = .int .i64 (i : Int) ∧ Hid (∀ t, t < i → t ∈ is)) (fun iv => N - (intOf iv).toNat)
              case atStart => exact ⟨0, Nat.zero_le _, rfl, fun t ht => absurd ht (Nat.not_lt_zero _)⟩
              case round =>
                obtain ⟨i, hi, rfl, HU⟩ := hrel
                have hib : (i : Int) ≤ 128 := by omega
                by_cases hlt : i < N
                · have hlt' : (i : Int) < (N : Int) := by omega
                  have hci := hgu.out i hlt
                  by_cases hin : i ∈ is
                  · have hct : is.contains i = true := List.contains_iff_mem.2 hin
                    rw [hct] at hci
                    have HU2 : Hid (∀ t, t < i + 1 → t ∈ is) := fun t ht => by
                      by_cases e : t = i
                      · rw [e]; exact hin
                      · exact HU.out t (by omega)
                    clear hct hin
                    go_wp2_with fail
                    go_round
                    case rel => exact ⟨i + 1, by omega, by go_num, HU2.out⟩
                    case measure => simp [intOf]; omega
                  · have hct : is.contains i = false := by rw [← Bool.not_eq_true]; exact fun e => hin (List.contains_iff_mem.1 e)
                    rw [hct] at hci
                    have HR := Lib.hid (HG.out.gs.fails (HDX.out.trans (getD_unused HA.out HNj.out (by rw [HLen.out]; exact hlt) hin)))
                    clear hct hin
                    go_wp2_with fail
                    go_ret2
                    exact HR.out
                · have hlt' : ¬ (i : Int) < (N : Int) := by omega
                  have HD := Lib.hid (HDX.out.trans (getD_used HA.out HNj.out (fun t ht => HU.out t (by have := HLen.out; omega))))
                  go_wp2_with fail
                  go_ret2
                  rw [HD.out]
                  exact ⟨⟨_, rfl, Rd.of_owns (by have := HG.out.gs.row; rw [HVl.out] at this ⊢; exact this), fun k hk => (HG.out.gs.row.lt k hk).1⟩, ⟨v2, HG.out.gs.rd, HG.out.gs.own⟩, HG.out.gs.mods⟩
end Go.Proofs.YtgpmoimmpbkgfaaGreatDoor

end

section
/- Layer 1: the reference's reader: End. -/
set_option linter.unusedVariables false
namespace Go.Proofs.YtgpmoimmpbkgfaaGreatDoor
open Go Go.RowKit

set_option maxHeartbeats 400000 in
theorem ref_end (q : Nat) (v : Value) (bs : List Bool) (w : World) (h : RefIn w q v bs) (hb : bs.length ≤ 70368744177664) :
    Calls Tryz.prog 42 #[.pointer (some ⟨q, 0, none⟩)] w fun e w' => e = .returned (.int .i64 (endR bs)) ∧ w' = w := by
  have h0 : w.cell? ⟨q, 0, none⟩ = some v := by rw [h.blk.cell]; rfl
  obtain ⟨p, c, hv⟩ := h.rd.shape
  subst hv
  have HC := Lib.hid (rd_bool_cell h.rd)
  clear h
  by_cases h8 : 8 ≤ bs.length
  · have hl : (8 : Int) ≤ (bs.length : Int) := by omega
    have HE : Hid (endR bs = 4) := by show _ = _; rw [endR, if_pos h8]
    go_enter Tryz.func42, Tryz.ntmps42
    go_wp2
    go_ret
    exact ⟨ret_int HE.out.symm, rfl⟩
  · have hl : ¬ (8 : Int) ≤ (bs.length : Int) := by omega
    go_enter Tryz.func42, Tryz.ntmps42
    go_wp2
    go_loop [3] (fun i => ∃ k : Nat, k ≤ bs.length ∧ i = .int .i64 k ∧ Hid (∀ j (hj : j < bs.length), j < k → bs[j] = false)) (fun i => bs.length - (intOf i).toNat)
    case atStart => exact ⟨0, Nat.zero_le _, rfl, fun j hj h => by omega⟩
    case round =>
      obtain ⟨k, hk, rfl, hall⟩ := hrel
      by_cases hlt : k < bs.length
      · obtain ⟨b, off, c', hv, hcell, hbl⟩ := HC.out k hlt
        simp only [Value.slice.injEq] at hv
        obtain ⟨rfl, _, rfl⟩ := hv
        clear hbl
        obtain ⟨x, hx⟩ : ∃ x, bs[k] = x := ⟨_, rfl⟩
        rw [hx] at hcell
        have HX := Lib.hid hx; clear hx
        cases x with
        | true =>
          go_wp2
          go_ret
          exact ⟨ret_int (endR_four h8 k hlt HX.out).symm, rfl⟩
        | false =>
          go_wp2
          go_round
          case rel => exact ⟨k + 1, by omega, by go_num, fun j hj h => if e : j = k then by subst e; exact HX.out else hall.out j hj (by omega)⟩
          case measure => simp [intOf]; omega
      · obtain rfl : k = bs.length := by omega
        go_wp2
        go_ret
        exact ⟨ret_int (endR_zero h8 (fun j hj => hall.out j hj hj)).symm, rfl⟩
end Go.Proofs.YtgpmoimmpbkgfaaGreatDoor

end

section
/- Layer 9: the reference's values and Decode. -/
set_option linter.unusedVariables false
set_option maxRecDepth 20000
namespace Go.Proofs.YtgpmoimmpbkgfaaGreatDoor
open Go Go.RowKit

set_option maxHeartbeats 2000000 in
theorem ref_values09 (tag : Nat) (ht : tag = 1 ∨ tag = 2 ∨ tag = 3) (q : Nat) (v : Value) (n : Nat) (bs : List Bool) (w : World) (h : RefIn w q v bs) (hb : bs.length ≤ 70368744177664) (hn : n ≤ 1000000) :
    Calls Tryz.prog 41 #[.pointer (some ⟨q, 0, none⟩), .int .i64 (tag : Int), .int .i64 (n : Int)] w (GetPostV q w v (valsC tag n bs)) := by
  rcases ht with rfl | rfl | rfl
  · have HP := Lib.hid (ref_get06 q v n bs w h hb hn)
    clear h hb hn
    go_enter Tryz.func41, Tryz.ntmps41
    go_wp2_with fail
    refine HP.out.mono ?_
    rintro e w1 ⟨⟨r, rfl, hr, ho⟩, hq, hm⟩
    go_wp2_with fail
    go_ret2
    exact ⟨⟨_, rfl, hr, ho⟩, hq, hm⟩
  · have HP := Lib.hid (ref_get07 q v n bs w h hb hn)
    clear h hb hn
    go_enter Tryz.func41, Tryz.ntmps41
    go_wp2_with fail
    refine HP.out.mono ?_
    rintro e w1 ⟨⟨r, rfl, hr, ho⟩, hq, hm⟩
    go_wp2_with fail
    go_ret2
    exact ⟨⟨_, rfl, hr, ho⟩, hq, hm⟩
  · have HP := Lib.hid (ref_get08 q v n bs w h hb hn)
    clear h hb hn
    go_enter Tryz.func41, Tryz.ntmps41
    go_wp2_with fail
    refine HP.out.mono ?_
    rintro e w1 ⟨⟨r, rfl, hr, ho⟩, hq, hm⟩
    go_wp2_with fail
    go_ret2
    exact ⟨⟨_, rfl, hr, ho⟩, hq, hm⟩

theorem suf_valsC (tag n : Nat) (bs : List Bool) : Suf (valsC tag n bs).r bs := by
  rw [valsC]
  split
  · exact suf_decV n bs
  · split
    · exact suf_decR n bs
    · exact suf_decD n bs
/-- What Decode leaves. -/
def DecPost (w : World) (o : List (Int × Nat) × Nat) (e : Ending) (w' : World) : Prop := ∃ r, e = .returned (.tuple #[r, .int .i64 (o.2 : Int)]) ∧ Rd w' 2 r o.1.length (samCells o.1) ∧ Below w.heap.size w w'
theorem DecPost.fails {w w' : World} {o : List (Int × Nat) × Nat} {en : Nat} (hb : Below w.heap.size w w') (ho : o = ([], en)) : DecPost w o (.returned (.tuple #[.slice none 0 0, .int .i64 (en : Int)])) w' := by
  subst ho
  exact ⟨_, rfl, Rd.nil _ _, hb⟩

set_option maxHeartbeats 4000000 in
theorem ref_decode09 (bv : Value) (b : List Nat) (w : World) (hb : Rd w 1 bv b.length (u8s b)) (ok : ∀ x ∈ b, x < 256) (hn : b.length ≤ 1000000) :
    Calls Tryz.prog 20 #[bv] w (DecPost w (decC b)) := by
  have HL := Lib.hid hb; have HO := Lib.hid ok; have HN := Lib.hid hn
  obtain ⟨pl, cl, hv⟩ := hb.shape
  subst hv
  match b, HL, HO, HN with
  | [], HL, HO, HN =>
    clear hb ok hn
    go_enter Tryz.func20, Tryz.ntmps20
    go_wp2_with fail
    go_ret2
    exact DecPost.fails (Below.refl _ _) rfl
  | [t], HL, HO, HN =>
    clear hb ok hn
    obtain ⟨b0, off, c, e, hm1, hm2, hcl⟩ := HL.out.at (by simp [u8s])
    simp only [Value.slice.injEq] at e
    obtain ⟨rfl, _, rfl⟩ := e
    have h0 : w.cell? ⟨b0, off, none⟩ = some (.int .u8 (t : Int)) := by have := hcl 0 (.int .u8 (t : Int)) rfl; simpa using this
    have ht : (t : Int) < 256 := by have := HO.out t (by simp); omega
    have hwt : IntKind.i64.wrap (t : Int) = (t : Int) := IntWalk.i64_in _ (by omega)
    clear hcl hm1 hm2
    by_cases htg : t < 1 ∨ 3 < t
    · have HE : Hid (decC [t] = ([], 9)) := by show _ = _; rw [decC, if_pos htg]
      by_cases h1 : (t : Int) < 1
      · clear htg
        go_enter Tryz.func20, Tryz.ntmps20
        go_wp2_with fail
        go_ret2
        exact DecPost.fails (Below.refl _ _) HE.out
      · have h3 : (3 : Int) < (t : Int) := by omega
        clear htg
        go_enter Tryz.func20, Tryz.ntmps20
        go_wp2_with fail
        go_ret2
        exact DecPost.fails (Below.refl _ _) HE.out
    · have HE : Hid (decC [t] = ([], 3)) := by show _ = _; rw [decC, if_neg htg]
      have h1 : ¬ (t : Int) < 1 := by omega
      have h3 : ¬ (3 : Int) < (t : Int) := by omega
      clear htg
      go_enter Tryz.func20, Tryz.ntmps20
      go_wp2_with fail
      go_ret2
      exact DecPost.fails (Below.refl _ _) HE.out
  | t :: m :: rest, HL, HO, HN =>
    clear hb ok hn
    obtain ⟨b0, off, c, e, hm1, hm2, hcl⟩ := HL.out.at (by simp [u8s])
    simp only [Value.slice.injEq] at e
    obtain ⟨rfl, _, rfl⟩ := e
    have h0 : w.cell? ⟨b0, off, none⟩ = some (.int .u8 (t : Int)) := by have := hcl 0 (.int .u8 (t : Int)) rfl; simpa using this
    have h1 : w.cell? ⟨b0, off + 1, none⟩ = some (.int .u8 (m : Int)) := hcl 1 (.int .u8 (m : Int)) rfl
    have ht : (t : Int) < 256 := by have := HO.out t (by simp); omega
    have hm : (m : Int) < 256 := by have := HO.out m (by simp); omega
    have hwt : IntKind.i64.wrap (t : Int) = (t : Int) := IntWalk.i64_in _ (by omega)
    have hwm : IntKind.i64.wrap (m : Int) = (m : Int) := IntWalk.i64_in _ (by omega)
    have HO8 : Hid (∀ x ∈ rest, x < 256) := fun x hx => HO.out x (by simp [hx])
    have HDr : Hid ((u8s (t :: m :: rest)).drop (2 * 1) = u8s rest) := rfl
    have HRl : Hid (rest.length + 2 = (t :: m :: rest).length) := by show _ = _; simp
    have HRb : Hid (rest.length ≤ 1000000) := by show _ ≤ _; have := HN.out; simp at this; omega
    have HE0 : Hid (decC (t :: m :: rest) = if t < 1 ∨ 3 < t then ([], 9) else if 120 < m + 1 then ([], 7) else decBody t (m + 1) (unpack rest)) := rfl
    clear hcl hm1 hm2
    generalize u8s (t :: m :: rest) = US at *
    generalize (t :: m :: rest).length = N at *
    have hN2 : (2 : Int) ≤ (N : Int) := by have := HRl.out; omega
    have hNn : 2 ≤ N := by omega
    have hN0 : ¬ (N : Int) = 0 := by omega
    have hN0b : ((N : Int) == 0) = false := by rw [beq_eq_false_iff_ne]; exact hN0
    have hN1 : ¬ (N : Int) = 1 := by omega
    have hN1b : ((N : Int) == 1) = false := by rw [beq_eq_false_iff_ne]; exact hN1
    have hi0 : (0 : Int) < (N : Int) := by omega
    have hi1 : (1 : Int) < (N : Int) := by omega
    by_cases htg : t < 1 ∨ 3 < t
    · have HE9 := HE0.out
      rw [if_pos htg] at HE9
      have HE := Lib.hid HE9
      clear HE9
      by_cases h1 : (t : Int) < 1
      · clear htg HE0
        go_enter Tryz.func20, Tryz.ntmps20
        go_wp2_with fail
        go_ret2
        exact DecPost.fails (Below.refl _ _) HE.out
      · have h3 : (3 : Int) < (t : Int) := by omega
        clear htg HE0
        go_enter Tryz.func20, Tryz.ntmps20
        go_wp2_with fail
        go_ret2
        exact DecPost.fails (Below.refl _ _) HE.out
    · have HE1 := HE0.out
      rw [if_neg htg] at HE1
      have ht1 : ¬ (t : Int) < 1 := by omega
      have ht3 : ¬ (3 : Int) < (t : Int) := by omega
      have HTg : Hid (t = 1 ∨ t = 2 ∨ t = 3) := by show _ ∨ _ ∨ _; omega
      obtain ⟨n, hn⟩ : ∃ n, m + 1 = n := ⟨_, rfl⟩
      rw [hn] at HE1
      have hmn : (m : Int) + 1 = (n : Int) := by omega
      by_cases hm120 : 120 < n
      · rw [if_pos hm120] at HE1
        have HE := Lib.hid HE1
        have hn120 : (120 : Int) < (n : Int) := by omega
        clear htg HE0 HE1 hm120 hn
        go_enter Tryz.func20, Tryz.ntmps20
        go_wp2_with fail
        go_ret2
        exact DecPost.fails (Below.refl _ _) HE.out
      · rw [if_neg hm120] at HE1
        have HE := Lib.hid HE1
        have hn120 : ¬ (120 : Int) < (n : Int) := by omega
        have HNn : Hid (n ≤ 120 ∧ 0 < n) := by show _ ∧ _; omega
        clear htg HE0 HE1 hm120 hn
        go_enter Tryz.func20, Tryz.ntmps20
        go_wp2_with (refine wpList_fromO Tryz.elemU8 _ _ _ 2 _ HL.out hNn rfl _ _ rfl rfl rfl ?_; intro pq cq hRq hown)
        have HR1 : Hid (Rd w 1 (.slice pq (N - 2) cq) rest.length (u8s rest)) := by
          rw [HDr.out, show N - 2 = rest.length by have := HRl.out; omega] at hRq
          show Rd _ _ _ _ _
          rw [show N - 2 = rest.length by have := HRl.out; omega]
          exact hRq
        clear hRq hown
        refine (ref_unpack _ rest w HR1.out HO8.out (by have := HRb.out; omega)).mono ?_
        rintro e w3 ⟨r3, rfl, hM⟩
        have HB3 := Lib.hid hM.2
        have HUl : Hid ((unpack rest).length ≤ 70368744177664) := by show _ ≤ _; rw [unpack_length]; have := HRb.out; omega
        have HU3 := Lib.hid (Rd.of_owns hM.1)
        have HUo : Hid (∀ k, r3.ownBlock = some k → k < w3.heap.size) := fun k hk => (hM.1.lt k hk).2
        obtain ⟨p3, c3, hv3⟩ := (Rd.of_owns hM.1).shape
        subst hv3
        clear hM HR1 h0 h1
        generalize unpack rest = U at *
        have HQ4 : Hid (RefIn (w3.alloc (.cells #[.slice p3 U.length c3] 83)) w3.heap.size (.slice p3 U.length c3) U) := ⟨Blk.new w3 _ _, HU3.out.below ((Below.refl _ _).alloc (Nat.le_refl _) _), fun _ e => by have := HUo.out _ e; omega⟩
        have HB4 : Hid (Below w.heap.size w (w3.alloc (.cells #[.slice p3 U.length c3] 83))) := HB3.out.trans ((Below.refl _ _).alloc HB3.out.size _)
        have H03 : Hid (w.heap.size ≤ w3.heap.size) := HB3.out.size
        go_wp2_with fail
        generalize w3.alloc (.cells #[.slice p3 U.length c3] 83) = w4 at *
        generalize w3.heap.size = q at *
        have HBD : Hid (decBody t n U = if (decT n U).e ≠ 0 then ([], (decT n U).e) else if (valsC t n (decT n U).r).e ≠ 0 then ([], (valsC t n (decT n U).r).e) else if endR (valsC t n (decT n U).r).r ≠ 0 then ([], 4) else if chooseC (valsC t n (decT n U).r).x ≠ t then ([], 8) else ((decT n U).x.zip (valsC t n (decT n U).r).x, 0)) := rfl
        have HSf := Lib.hid (suf_decT n U).len
        have HIn := Lib.hid (decT_inv n U)
        refine (ref_get05 q _ n U w4 HQ4.out HUl.out (by have := HNn.out; omega)).mono ?_
        rintro e w5 ⟨⟨r5, rfl, hr5, hown5⟩, ⟨v5, hq5, _⟩, hm5⟩
        have HB5 : Hid (Below w.heap.size w w5) := HB4.out.trans (hm5.below HB4.out.size (fun k hk e => by have := H03.out; omega))
        have HQ5 := Lib.hid hq5
        have HT5 := Lib.hid hr5
        have HTo : Hid (∀ k, r5.ownBlock = some k → k ≠ q) := fun k hk e => by have := hown5 k hk; have := HQ4.out.blk.lt; omega
        obtain ⟨pt, ct, he⟩ := hr5.shape
        subst he
        clear hr5 hown5 hq5 hm5 HQ4 HB4 HB3 HU3 HUo
        generalize decT n U = o1 at *
        obtain ⟨e1, x1, r1⟩ := o1
        simp only at *
        by_cases he1 : e1 = 0
        · subst he1
          have HBD2 : Hid (decBody t n U = if (valsC t n r1).e ≠ 0 then ([], (valsC t n r1).e) else if endR (valsC t n r1).r ≠ 0 then ([], 4) else if chooseC (valsC t n r1).x ≠ t then ([], 8) else (x1.zip (valsC t n r1).x, 0)) := by
            show _ = _
            rw [HBD.out, if_neg (by simp)]
          obtain ⟨_, hx1, _⟩ := HIn.out rfl
          have HX1 := Lib.hid hx1
          have HR1l : Hid (r1.length ≤ 70368744177664) := by show _ ≤ _; have := HSf.out; have := HUl.out; omega
          have HVin : Hid ((valsC t n r1).e = 0 → (valsC t n r1).x.length = n ∧ ∀ x ∈ (valsC t n r1).x, x < 18446744073709551616) := fun h => by
            obtain ⟨_, a, _, c⟩ := valsC_inv h
            exact ⟨a, c⟩
          have HVs := Lib.hid (ref_values09 t HTg.out q v5 n r1 w5 HQ5.out HR1l.out (by have := HNn.out; omega))
          have HSv := Lib.hid (suf_valsC t n r1).len
          clear hx1 HBD HIn
          generalize valsC t n r1 = o2 at *
          obtain ⟨e2, x2, r2⟩ := o2
          simp only at *
          go_wp2_with fail
          refine HVs.out.mono ?_
          rintro e w6 ⟨⟨r6, rfl, hr6, hown6⟩, ⟨v6, hq6, _⟩, hm6⟩
          have HB6 : Hid (Below w.heap.size w w6) := HB5.out.trans (hm6.below HB5.out.size (fun k hk e => by have := H03.out; omega))
          have HQ6 := Lib.hid hq6
          have HT6 := Lib.hid (HT5.out.mods hm6 (fun k hk e => HTo.out k hk e))
          have HV6 := Lib.hid hr6
          obtain ⟨pv, cv, he⟩ := hr6.shape
          subst he
          clear hr6 hown6 hq6 hm6 HVs HQ5 HB5 HT5 HTo
          by_cases he2 : e2 = 0
          · subst he2
            obtain ⟨hx2, hi2⟩ := HVin.out rfl
            have HX2 := Lib.hid hx2; have HI2 := Lib.hid hi2
            have HBD3 : Hid (decBody t n U = if endR r2 ≠ 0 then ([], 4) else if chooseC x2 ≠ t then ([], 8) else (x1.zip x2, 0)) := by
              show _ = _
              rw [HBD2.out, if_neg (by simp)]
            have HEd := Lib.hid (ref_end q v6 r2 w6 HQ6.out (by have := HSv.out; have := HR1l.out; omega))
            clear hx2 hi2 HVin HBD2
            go_wp2_with fail
            refine HEd.out.mono ?_
            rintro e w7 ⟨rfl, h7⟩
            obtain rfl := h7.symm
            by_cases hz : endR r2 = 0
            · have HBD4 : Hid (decBody t n U = if chooseC x2 ≠ t then ([], 8) else (x1.zip x2, 0)) := by
                show _ = _
                rw [HBD3.out, if_neg (fun h => h hz)]
              rw [hz]
              clear hz HBD3 HEd
              go_wp2_with fail
              refine (ref_choose09 _ x2 w6 HV6.out HI2.out (by rw [HX2.out]; have := HNn.out; omega)).mono ?_
              rintro e w8 ⟨rfl, hB⟩
              have HB8 := Lib.hid (HB6.out.trans (hB.mono HB6.out.size))
              have HT8 := Lib.hid (HT6.out.below hB)
              have HV8 := Lib.hid (HV6.out.below hB)
              clear hB HB6 HT6 HV6 HQ6
              by_cases hc : chooseC x2 = t
              · have HEz : Hid (decC (t :: m :: rest) = (x1.zip x2, 0)) := by show _ = _; rw [HE.out, HBD4.out, if_neg (fun h => h hc)]
                rw [hc]
                clear hc HBD4
                go_wp2_with fail
                have HZl : Hid ((x1.zip x2).length = n) := by show _ = _; rw [List.length_zip, HX1.out, HX2.out, Nat.min_self]
                go_loopw [10, 11] (fun lv iv wr => ∃ i : Nat, i ≤ n ∧ iv = .int .i64 (i : Int) ∧ (∃ p c, lv = .slice p i c) ∧ Hid (wr.ownsRow w8.heap.size 33 2 lv i (samCells ((x1.zip x2).take i)) ∧ Below w8.heap.size w8 wr)) (fun _ iv _ => n - (intOf iv).toNat)
                case atStart => exact ⟨0, Nat.zero_le _, rfl, ⟨_, _, rfl⟩, World.ownsRow_nil _ _ _ _, Below.refl _ _⟩
                case round =>
                  obtain ⟨i, hi, rfl, ⟨pL, cL, rfl⟩, HX⟩ := hrel
                  have hib : (i : Int) ≤ 120 := by have := HNn.out; omega
                  by_cases hlt : i < n
                  · have hlt' : (i : Int) < (n : Int) := by omega
                    have hl1 : (i : Int) < (x1.length : Int) := by rw [HX1.out]; exact hlt'
                    have hl2 : (i : Int) < (x2.length : Int) := by rw [HX2.out]; exact hlt'
                    obtain ⟨u, hu⟩ : ∃ u, x1[i]'(by rw [HX1.out]; exact hlt) = u := ⟨_, rfl⟩
                    obtain ⟨x, hx⟩ : ∃ x, x2[i]'(by rw [HX2.out]; exact hlt) = x := ⟨_, rfl⟩
                    have HTk : Hid ((x1.zip x2).take (i + 1) = (x1.zip x2).take i ++ [(u, x)]) := by
                      show _ = _
                      rw [List.take_add_one, List.getElem?_eq_getElem (by rw [HZl.out]; exact hlt), List.getElem_zip, hu, hx]; rfl
                    obtain ⟨bt, ot, ct', e, _, _, hct⟩ := HT8.out.at (fun e => by have := congrArg List.length e; simp [i64s] at this; rw [this] at hl1; simp at hl1; omega)
                    simp only [Value.slice.injEq] at e
                    obtain ⟨rfl, _, rfl⟩ := e
                    obtain ⟨bx, ox, cx', e, _, _, hcx⟩ := HV8.out.at (fun e => by have := congrArg List.length e; rw [u64s_length] at this; simp at this; rw [this] at hl2; simp at hl2; omega)
                    simp only [Value.slice.injEq] at e
                    obtain ⟨rfl, _, rfl⟩ := e
                    have hc1 : w8.cell? ⟨bt, ot + i, none⟩ = some (.int .i64 u) := hct i _ (by rw [i64s, List.getElem?_map, List.getElem?_eq_getElem (by rw [HX1.out]; exact hlt), hu]; rfl)
                    have hc2 : w8.cell? ⟨bx, ox + i, none⟩ = some (.int .u64 (x : Int)) := hcx i _ (by rw [u64s, List.getElem?_map, List.getElem?_eq_getElem (by rw [HX2.out]; exact hlt), hx]; rfl)
                    have HS : Hid (∀ wz, Below w8.heap.size w8 wz → (wz.cell? ⟨bt, ot + i, none⟩ = some (.int .i64 u) ∧ wz.cell? ⟨bx, ox + i, none⟩ = some (.int .u64 (x : Int)) ∧ True)) := fun wz hb => ⟨(hb.cell (World.block_lt_of_cell? w8 _ hc1)).trans hc1, (hb.cell (World.block_lt_of_cell? w8 _ hc2)).trans hc2, trivial⟩
                    have HLb : Hid ((i + 1) * 16 ≤ 140737488355328 ∧ i + 1 ≤ maxLen) := by show _ ∧ _; unfold maxLen; omega
                    have HC : Hid (∀ w' : World, (w'.cell? ⟨bt, ot + i, none⟩ = some (.int .i64 u) ∧ w'.cell? ⟨bx, ox + i, none⟩ = some (.int .u64 (x : Int)) ∧ True) → (w'.cell? ⟨bt, ot + i, none⟩ = some (.int .i64 u) ∧ w'.cell? ⟨bx, ox + i, none⟩ = some (.int .u64 (x : Int)) ∧ True)) := fun _ h => h
                    have HBd : Hid (Below w8.heap.size w8 wr.drew) := HX.out.2.drew
                    have HOd : Hid (wr.drew.ownsRow w8.heap.size 33 2 (.slice pL i cL) i (samCells ((x1.zip x2).take i))) := (Mods.drew (fun _ => False) wr).owns HX.out.1 (fun _ _ e => e)
                    clear hct hcx hu hx hc1 hc2
                    generalize (x1.zip x2).take i = A at *
                    go_wp2_with fail
                    refine wp_normal ?_
                    refine wp_region_takeH (fun w' : World => w'.cell? ⟨bt, ot + i, none⟩ = some (.int .i64 u) ∧ w'.cell? ⟨bx, ox + i, none⟩ = some (.int .u64 (x : Int)) ∧ True) [10, 11] [0, 1, 2, 3, 4, 5, 6, 7, 8, 9, 10, 11, 12] (by kernel_rfl) (by kernel_rfl) (by kernel_rfl) ?_ (HS.out _ HBd.out) ?_
                    · intro c a a' w hd h; cases h.1
                    simp only [taken, List.map_cons, List.map_nil, List.getElem?_cons_succ, List.getElem?_cons_zero, Option.getD_some]
                    generalize wr.drew = wd at *
                    repeat (first
        | (refine takeH_skip rfl ?_; simp only [Act.put, List.setIfInBounds_toArray, List.set_cons_succ, List.set_cons_zero])
        | (refine takeH_blind rfl rfl ?_; apply Exists.intro; refine ⟨fun w => ?_, ?_⟩; (go_simp; try with_reducible rfl); simp only [Act.put, List.setIfInBounds_toArray, List.set_cons_succ, List.set_cons_zero])
        | (refine takeH_reads rfl rfl ?_; apply Exists.intro; refine ⟨fun w' hS => ?_, ?_⟩; (obtain ⟨d0, d1, d2⟩ := HC.out w' hS; go_simp; try with_reducible rfl); simp only [Act.put, List.setIfInBounds_toArray, List.set_cons_succ, List.set_cons_zero]))
                    refine takeH_call rfl rfl (fun K' hK => ?_)
                    go_wp2_with fail
                    refine hK _ _ (HS.out _ (HBd.out.trans ((Below.refl _ wd).alloc HBd.out.size (.cells #[.int .i64 u, .int .u64 (x : Int)] 33)))) ?_
                    clear hK K'
                    have hbA : Below wd.heap.size wd (wd.alloc (.cells #[.int .i64 u, .int .u64 (x : Int)] 33)) := (Below.refl _ wd).alloc (Nat.le_refl _) _
                    have hOA := (Mods.of_below hbA (fun _ => False)).owns HOd.out (fun _ _ e => e)
                    have HOA := Lib.hid hOA
                    have HBA : Hid (Below w8.heap.size w8 (wd.alloc (.cells #[.int .i64 u, .int .u64 (x : Int)] 33))) := HBd.out.trans (hbA.mono HBd.out.size)
                    have HRA : Hid (Rd (wd.alloc (.cells #[.int .i64 u, .int .u64 (x : Int)] 33)) 2 (.slice (some ⟨wd.heap.size, 0, none⟩) 1 1) 1 (samCells [(u, x)])) := Rd.of_owns (World.ownsRow_lit (base := 0) wd #[.int .i64 u, .int .u64 (x : Int)] 1 (Nat.zero_le _) (by simp [maxLen]) (by simp))
                    clear hbA hOA
                    generalize wd.alloc (.cells #[.int .i64 u, .int .u64 (x : Int)] 33) = wa at *
                    refine takeH_extend elemSam rfl rfl _ _ rfl rfl rfl (owns_rebase HOA.out (base' := 0) (fun _ _ => Nat.zero_le _)) HRA.out (samCells_one _) HLb.out ?_
                    intro v9 w9 hown hmods hfr
                    have HB9 : Hid (Below w8.heap.size w8 w9) := HBA.out.trans (hmods.below HBA.out.size (fun k hk e => by have := (HOA.out.lt k e).1; omega))
                    have HX9 : Hid (w9.ownsRow w8.heap.size 33 2 v9 (i + 1) (samCells ((x1.zip x2).take (i + 1)))) := by
                      show World.ownsRow _ _ _ _ _ _ _
                      rw [HTk.out, samCells_append]
                      refine owns_rebase hown (fun k hk => ?_)
                      rcases hfr k hk with e | e
                      · exact (HOA.out.lt k e).1
                      · have := HBA.out.size; omega
                    obtain ⟨p9, c9, hv9⟩ : ∃ p c, v9 = .slice p (i + 1) c := (Rd.of_owns hown).shape
                    subst hv9
                    refine ⟨HS.out _ HB9.out, ?_⟩
                    simp only [Act.put, List.setIfInBounds_toArray, List.set_cons_succ, List.set_cons_zero]
                    clear hown hmods hfr HOA HBA HRA HOd HBd
                    repeat (first
        | (refine takeH_skip rfl ?_; simp only [Act.put, List.setIfInBounds_toArray, List.set_cons_succ, List.set_cons_zero])
        | (refine takeH_blind rfl rfl ?_; apply Exists.intro; refine ⟨fun w => ?_, ?_⟩; (go_simp; try with_reducible rfl); simp only [Act.put, List.setIfInBounds_toArray, List.set_cons_succ, List.set_cons_zero]))
                    refine takeH_nil ⟨rfl, ?_⟩
                    go_wp2_with fail
                    go_round
                    case rel => exact ⟨i + 1, by omega, by go_num, ⟨_, _, rfl⟩, HX9.out, HB9.out⟩
                    case measure => simp [intOf]; omega
                  · have hlt' : ¬ (i : Int) < (n : Int) := by omega
                    obtain rfl : i = n := by omega
                    have hall : (x1.zip x2).take i = x1.zip x2 := List.take_of_length_le (by rw [HZl.out]; omega)
                    rw [hall] at HX
                    clear hall
                    go_wp2_with fail
                    go_ret2
                    rw [HEz.out]
                    have h := Rd.of_owns HX.out.1
                    exact ⟨_, rfl, by rw [HZl.out]; exact h, HB8.out.trans (HX.out.2.mono HB8.out.size)⟩
              · have HE3 : Hid (decC (t :: m :: rest) = ([], 8)) := by show _ = _; rw [HE.out, HBD4.out, if_pos hc]
                have hcn : ¬ (chooseC x2 : Int) = (t : Int) := by omega
                have hcnb : ((chooseC x2 : Int) == (t : Int)) = false := by rw [beq_eq_false_iff_ne]; exact hcn
                clear hc HBD4
                go_wp2_with fail
                go_ret2
                exact DecPost.fails HB8.out HE3.out
            · have hz4 : endR r2 = 4 := by
                revert hz
                rw [endR]
                split
                · intro _; rfl
                · split
                  · intro h; exact absurd rfl h
                  · intro _; rfl
              have HE3 : Hid (decC (t :: m :: rest) = ([], 4)) := by show _ = _; rw [HE.out, HBD3.out, if_pos hz]
              rw [hz4]
              clear hz hz4 HBD3 HEd
              go_wp2_with fail
              go_ret2
              exact DecPost.fails HB6.out HE3.out
          · have hd : decBody t n U = ([], e2) := by rw [HBD2.out, if_pos he2]
            have HE2 := Lib.hid (HE.out.trans hd)
            have hen : ¬ (e2 : Int) = 0 := by omega
            have henb : ((e2 : Int) == 0) = false := by rw [beq_eq_false_iff_ne]; exact hen
            clear hd he2 HBD2 HVin
            go_wp2_with fail
            go_ret2
            exact DecPost.fails HB6.out HE2.out
        · have hd : decBody t n U = ([], e1) := by rw [HBD.out, if_pos he1]
          have HE2 := Lib.hid (HE.out.trans hd)
          have hen : ¬ (e1 : Int) = 0 := by omega
          have henb : ((e1 : Int) == 0) = false := by rw [beq_eq_false_iff_ne]; exact hen
          clear hd he1 HBD HIn
          go_wp2_with fail
          go_ret2
          exact DecPost.fails HB5.out HE2.out
end Go.Proofs.YtgpmoimmpbkgfaaGreatDoor

end
