/- Layer 7: the reference's Put. -/
import Derived.Test.YtnjdjmfjkjpelaaRef07A
import Derived.Test.YtnjdjmfjkjpelaaRefW
set_option linter.unusedVariables false
namespace Go.Proofs.Ytnjdjmfjkjpelaa
open Go Go.RowKit

set_option maxRecDepth 10000 in
set_option maxHeartbeats 4000000 in
theorem ref_put07 (v lv : Value) (bs : List Bool) (l : List Nat) (w : World) (h : BitsIn w v bs) (hl : Rd w 1 lv l.length (u64s l)) (hin : ∀ t ∈ l, in64u t) (hap : l ≠ [] → ∀ k, lv.ownBlock = some k → v.ownBlock ≠ some k) (hz : bs.length + 71 * l.length ≤ 70368744177000) :
    Calls Try.prog 18 #[v, lv] w fun e w' => ∃ v', e = .returned v' ∧ RefWrote v (bs ++ encR l) w v' w' := by
  have H := Lib.hid h
  have HS := Lib.hid (ref_split07 lv l w hl (by omega))
  have HCh := Lib.hid (chain_splitR hin)
  have HE : Hid (encR l = (splitR l).flatMap encRun) := rfl
  have HZ : Hid (bs.length + 71 * (splitR l).length ≤ 70368744177000) := by show _ ≤ _; have := splitR_len l; omega
  have HVl : Hid (∀ k, v.ownBlock = some k → k < w.heap.size) := owns_lt h
  obtain ⟨pl, cl, hv⟩ := hl.shape
  subst hv
  obtain ⟨p0, c0, hv0⟩ := (Rd.of_owns h).shape
  subst hv0
  clear h hl hin hap hz
  generalize splitR l = rs at *
  go_enter Try.func18, Try.ntmps18
  go_wp2_with fail
  refine HS.out.mono ?_
  rintro e w1 ⟨rv, rc, rfl, hT⟩
  have HT := Lib.hid hT
  have HW1 : Hid (RefWrote (.slice p0 bs.length c0) bs w1 (.slice p0 bs.length c0) w1) := ⟨(Mods.of_below hT.bel (fun _ => False)).owns H.out (fun _ _ e => e), Mods.refl _ _, Fresh.refl _ _⟩
  obtain ⟨pv, cv, hvv⟩ := (Rd.of_owns hT.vals).shape
  obtain ⟨pc, cc, hvc⟩ := (Rd.of_owns hT.cnts).shape
  subst hvv; subst hvc
  have HApart : Hid (∀ g, w.heap.size ≤ g → ¬ (Value.slice p0 bs.length c0).ownBlock = some g) := fun g hg e => by have := HVl.out g e; omega
  clear hT HS
  go_wp2_with fail
  go_loopw [0, 7] (fun v2 iv wr => ∃ (i : Nat) (B : List Bool), i ≤ rs.length ∧ iv = .int .i64 (i : Int) ∧ Hid (B = bs ++ (rs.take i).flatMap encRun) ∧ Hid (RefWrote (.slice p0 bs.length c0) B w1 v2 wr)) (fun _ iv _ => rs.length - (intOf iv).toNat)
  case atStart => exact ⟨0, bs, by omega, rfl, by show _ = _; simp, HW1.out⟩
  case round =>
    obtain ⟨i, B, hi, rfl, HB, HW⟩ := hrel
    obtain ⟨p2, c2, hv2⟩ := (Rd.of_owns HW.out.own).shape
    subst hv2
    by_cases hlt : i < rs.length
    · have hlt' : (i : Int) < (rs.length : Int) := by omega
      have hib : (i : Int) ≤ 70368744177000 := by have := HZ.out; omega
      have HVr : Hid (wr.ownsRow w.heap.size 29 1 (.slice pv rs.length cv) rs.length (u64s (rs.map Prod.fst))) := HW.out.mods.owns HT.out.vals (fun k hk e => HApart.out k (HT.out.vals.lt k hk).1 e)
      have HCr : Hid (wr.ownsRow w.heap.size 3 1 (.slice pc rs.length cc) rs.length (n64s (rs.map Prod.snd))) := HW.out.mods.owns HT.out.cnts (fun k hk e => HApart.out k (HT.out.cnts.lt k hk).1 e)
      obtain ⟨gv, cv', hvv⟩ : ∃ g cap, (Value.slice pv rs.length cv) = .slice (some ⟨g, 0, none⟩) rs.length cap := by
        rcases owns_cases HVr.out with ⟨_, h0, _⟩ | ⟨g, cap, hv, _⟩
        · omega
        · exact ⟨g, cap, hv⟩
      obtain ⟨gc, cc', hvc⟩ : ∃ g cap, (Value.slice pc rs.length cc) = .slice (some ⟨g, 0, none⟩) rs.length cap := by
        rcases owns_cases HCr.out with ⟨_, h0, _⟩ | ⟨g, cap, hv, _⟩
        · omega
        · exact ⟨g, cap, hv⟩
      simp only [Value.slice.injEq] at hvv hvc
      obtain ⟨rfl, _, rfl⟩ := hvv
      obtain ⟨rfl, _, rfl⟩ := hvc
      obtain ⟨x, c, hxc⟩ : ∃ x c, rs[i] = (x, c) := ⟨_, _, rfl⟩
      have hg : rs[i]? = some (x, c) := by rw [List.getElem?_eq_getElem hlt, hxc]
      obtain ⟨hc1, hc2, hx64⟩ : runOk (x, c) := chain_all HCh.out _ (hxc ▸ List.getElem_mem hlt)
      have hcv : wr.cell? ⟨gv, i, none⟩ = some (.int .u64 (x : Int)) := by
        rw [HVr.out.cellAt i (by omega)]; simp [u64s, hg]
      have HCc : Hid (∀ w', Mods (fun k => (Value.slice p2 B.length c2).ownBlock = some k) wr w' → w'.cell? ⟨gc, i, none⟩ = some (.int .i64 (c : Int))) := fun w' hm => by
        have h := hm.owns HCr.out (fun k hk e => by
          rcases HW.out.fresh k e with e1 | e1
          · exact HApart.out k (HCr.out.lt k hk).1 e1
          · have := (HT.out.cnts.lt k hk).2; omega)
        rw [h.cellAt i (by omega)]; simp [n64s, hg]
      have HTk : Hid ((rs.take (i + 1)).flatMap encRun = (rs.take i).flatMap encRun ++ (fieldBits x 64 ++ fieldBits (c - 1) 7)) := by
        show _ = _
        rw [List.take_add_one, hg, List.flatMap_append]; simp [encRun]
      have HBl : Hid (B.length = bs.length + 71 * i) := by show _ = _; rw [HB.out, List.length_append, encRuns_len, List.length_take, Nat.min_eq_left hi]
      have HX := Lib.hid hx64
      have HCb : Hid (1 ≤ c ∧ c ≤ 128) := ⟨hc1, hc2⟩
      clear hg hxc hc1 hc2 hx64
      go_wp2_with fail
      refine (ref_write _ B x 64 _ HW.out.own HX.out (by omega) (by have := HBl.out; have := HZ.out; omega)).mono ?_
      rintro en w7 ⟨v7, rfl, hR⟩
      have hcc := HCc.out w7 hR.mods
      have HR7 : Hid (RefWrote (.slice p0 bs.length c0) (B ++ fieldBits x 64) w1 v7 w7) := HW.out.then hR
      have HB7 : Hid ((B ++ fieldBits x 64).length = bs.length + 71 * i + 64) := by show _ = _; rw [List.length_append, fieldBits_length, HBl.out]
      have HB8 : Hid (B ++ fieldBits x 64 = (bs ++ (rs.take i).flatMap encRun) ++ fieldBits x 64) := by show _ = _; rw [HB.out]
      clear hR HW HVr HCr hcv HCc
      generalize B ++ fieldBits x 64 = B2 at *
      obtain ⟨p7, c7, hv7⟩ := (Rd.of_owns HR7.out.own).shape
      subst hv7
      have hcs : (c : Int) - 1 = ((c - 1 : Nat) : Int) := by have := HCb.out; omega
      have hcw : IntKind.u64.wrap ((c - 1 : Nat) : Int) = ((c - 1 : Nat) : Int) := by rw [IntKind.wrap_u64]; have := HCb.out; omega
      have hcb : (c : Int) ≤ 128 := by have := HCb.out; omega
      have HC7 : Hid (c - 1 < 18446744073709551616) := by show _ < _; have := HCb.out; omega
      generalize c - 1 = c7' at *
      go_wp2_with fail
      refine (ref_write _ _ c7' 7 _ HR7.out.own HC7.out (by omega) (by have := HB7.out; have := HZ.out; omega)).mono ?_
      rintro en w8 ⟨v8, rfl, hR⟩
      have HR8 : Hid (RefWrote (.slice p0 bs.length c0) (B2 ++ fieldBits c7' 7) w1 v8 w8) := HR7.out.then hR
      have HB9 : Hid (B2 ++ fieldBits c7' 7 = bs ++ ((rs.take i).flatMap encRun ++ (fieldBits x 64 ++ fieldBits c7' 7))) := by show _ = _; rw [HB8.out]; simp [List.append_assoc]
      clear hR HR7
      generalize B2 ++ fieldBits c7' 7 = B3 at *
      obtain ⟨p8, c8, hv8⟩ := (Rd.of_owns HR8.out.own).shape
      subst hv8
      go_wp2_with fail
      go_round
      case rel => exact ⟨i + 1, B3, by omega, by go_num, by show _ = _; rw [HTk.out]; exact HB9.out, HR8.out⟩
      case measure => simp [intOf]; omega
    · have hlt' : ¬ (i : Int) < (rs.length : Int) := by omega
      have HBe : Hid (B = bs ++ encR l) := by show _ = _; rw [HB.out, HE.out, List.take_of_length_le (by omega)]
      go_wp2_with fail
      go_ret
      rw [← HBe.out]
      refine ⟨_, rfl, HW.out.own, (Mods.of_below HT.out.bel _).trans HW.out.mods (fun _ _ e => e), fun k hk => ?_⟩
      rcases HW.out.fresh k hk with e | e
      · exact Or.inl e
      · have := HT.out.bel.size; exact Or.inr (by omega)
end Go.Proofs.Ytnjdjmfjkjpelaa
