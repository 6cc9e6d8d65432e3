/- RcD, RcE, RcF, WireB, FromTo, WireTup, VarintGet, WireGu, WireEu, WireNe, WireFu, WireEnds, in one text. -/
import Derived.Test.YtmnagmbokajfpaaMrg9
import Derived.Test.YtmnagmbokajfpaaMrg8
import Derived.Test.YtmnagmbokajfpaaMrg7
import Derived.StillTailTactics
import Derived.Test.YtmnagmbokajfpaaMrg5
import Derived.Test.YtmnagmbokajfpaaMrg3
import Derived.Test.YtmnagmbokajfpaaMrg2
import Derived.Test.YtmnagmbokajfpaaMrg4
import Derived.Test.YtmnagmbokajfpaaMrg1

section
/- Layer 13, the program's own: Encode. -/
set_option linter.unusedVariables false
set_option maxRecDepth 20000
namespace Go.Proofs.Ytmnagmbokajfpaa
open Go Go.RowKit

set_option maxHeartbeats 16000000 in
theorem prg_encode13o (tv lv : Value) (t : List ByteArray) (l : List Rec) (w : World) (ht : Rd w 1 tv t.length (strs t)) (htn : t.length ≤ 1000000) (hta : AscB ltS t) (hl : RdR w lv l) (hln : l.length ≤ 1000000) (hlb : ∀ r ∈ l, r.1.length ≤ 1000000 ∧ r.2.length ≤ 1000000) (hlz : ∀ r ∈ l, ∀ n ∈ r.2, -9223372036854775808 ≤ n ∧ n < 9223372036854775808) (hE : (encRc t l).length ≤ 1000000000) :
    Calls Try.prog 14 #[tv, lv] w (GotBo w (encRcR t l)) := by
  have HT := Lib.hid ht; have HTn := Lib.hid htn; have HTa := Lib.hid hta; have HL := Lib.hid hl; have HLn := Lib.hid hln; have HLb := Lib.hid hlb; have HLz := Lib.hid hlz; have HEn := Lib.hid hE
  obtain ⟨pt, ct, hv⟩ := ht.shape
  subst hv
  obtain ⟨pl, cl, hv⟩ := hl.shape
  subst hv
  have hlni : (l.length : Int) ≤ 1000000 := by omega
  have hw : IntKind.u64.wrap (l.length : Int) = (l.length : Int) := by rw [IntKind.wrap_u64]; omega
  have HO0 : Hid (OwnB w w [] (.slice none 0 0)) := Own1.nil w
  clear ht htn hta hl hln hlb hlz hE
  go_enter Try.func14, Try.ntmps14
  go_wp2_with fail
  refine (var_append13 w w [] _ l.length HO0.out (by omega) (by simp)).mono ?_
  rintro en w1 ⟨r1, rfl, hO, _⟩
  have HO1 : Hid (OwnB w w1 (encTo t l 0) r1) := by
    show OwnB w w1 (groups l.length ++ (l.take 0).flatMap (recBytes t)) r1
    rw [List.take_zero, List.flatMap_nil, List.append_nil]
    simpa using hO
  obtain ⟨p1, c1, hv1⟩ := HO1.out.shape
  subst hv1
  clear hO HO0
  go_wp2_with fail
  go_loopw [6, 16] (fun vv iv wr => ∃ (i : Nat), i ≤ l.length ∧ iv = .int .i64 (i : Int) ∧ Hid (OwnB w wr (encTo t l i) vv) ∧ Hid (recsErr t l = recsErr t (l.drop i))) (fun _ iv _ => l.length - (intOf iv).toNat)
  case atStart => exact ⟨0, Nat.zero_le _, rfl, HO1.out, rfl⟩
  case round =>
    obtain ⟨i, hi, rfl, HO, HE⟩ := hrel
    clear HO1
    have him : (i : Int) ≤ 1000000 := by omega
    obtain ⟨pv, cv, hvv⟩ := HO.out.shape
    subst hvv
    by_cases hlt : i < l.length
    · have hlt' : (i : Int) < (l.length : Int) := by omega
      obtain ⟨⟨labs, chs⟩, hr⟩ : ∃ r, l[i]? = some r := ⟨_, List.getElem?_eq_getElem hlt⟩
      obtain ⟨blk, off, h1, h2, e, ⟨q1, k1, e1⟩, ⟨q2, k2, e2⟩, hat⟩ := HL.out.always hr
      simp only at e1 e2
      subst e; subst e1; subst e2
      have HAt : Hid (∀ w', Below w.heap.size w w' → w'.cell? ⟨blk, off + i * 2, none⟩ = some (.slice q1 labs.length k1) ∧ w'.cell? ⟨blk, off + i * 2 + 1, none⟩ = some (.slice q2 chs.length k2) ∧ Rd w' 2 (.slice q1 labs.length k1) labs.length (labCells labs) ∧ Rd w' 1 (.slice q2 chs.length k2) chs.length (i64s chs)) := fun w' hb => by obtain ⟨a, b, c, d⟩ := hat w' hb; exact ⟨a, b, c, d⟩
      have hmem := List.mem_of_getElem? hr
      have HRb : Hid (labs.length ≤ 1000000 ∧ chs.length ≤ 1000000) := HLb.out _ hmem
      have HRz : Hid (∀ n ∈ chs, -9223372036854775808 ≤ n ∧ n < 9223372036854775808) := HLz.out _ hmem
      have HRm : Hid ((encTo t l i).length + (groups labs.length).length + (symsBytes t (stringsL labs)).length + (groups chs.length).length + (numsBytes chs).length ≤ 1000000000) := Nat.le_trans (encTo_room hr) HEn.out
      have HNx : Hid (encTo t l (i + 1) = encTo t l i ++ groups labs.length ++ symsBytes t (stringsL labs) ++ groups chs.length ++ numsBytes chs) := encTo_step hr
      have HSt : Hid (recsErr t l = if recErr t (labs, chs) = 0 then recsErr t (l.drop (i + 1)) else recErr t (labs, chs)) := recsErr_step hr HE.out
      obtain ⟨d0, d1, _, _⟩ := HAt.out wr HO.out.bel
      have hbA : Hid (Below wr.heap.size wr (wr.alloc (.cells #[.slice q1 labs.length k1, .slice q2 chs.length k2] 55))) := (Below.refl _ wr).alloc (Nat.le_refl _) _
      have HO2 := Lib.hid (HO.out.below hbA.out)
      have HG : Hid (Blk (wr.alloc (.cells #[.slice q1 labs.length k1, .slice q2 chs.length k2] 55)) wr.heap.size [.slice q1 labs.length k1, .slice q2 chs.length k2]) := Blk.new _ _ _
      obtain ⟨E0, hE0⟩ : ∃ E0, encTo t l i = E0 := ⟨_, rfl⟩
      rw [hE0] at HO HO2 HRm HNx ⊢
      have HVg : Hid (∀ k, (Value.slice pv E0.length cv).ownBlock = some k → k < wr.heap.size) := fun k hk => (HO.out.row.lt k hk).2
      clear hr hat hmem HE hE0 HO
      go_wp2_with fail
      generalize wr.alloc (.cells #[.slice q1 labs.length k1, .slice q2 chs.length k2] 55) = w2 at *
      obtain ⟨g, hg⟩ : ∃ g, wr.heap.size = g := ⟨_, rfl⟩
      rw [hg] at HG HVg ⊢
      have g0 : w2.cell? ⟨g, 0, none⟩ = some (.slice q1 labs.length k1) := HG.out.cell 0
      have g1 : w2.cell? ⟨g, 1, none⟩ = some (.slice q2 chs.length k2) := HG.out.cell 1
      have HPut := Lib.hid (app_labels w w2 E0 _ (.slice pt t.length ct) (.slice q1 labs.length k1) t labs HO2.out HT.out HTn.out HTa.out (HAt.out w (Below.refl _ _)).2.2.1 HRb.out.1 (by have := HRm.out; omega))
      clear hg d0 d1
      go_wp2_with fail
      refine HPut.out.mono ?_
      rintro en w3 ⟨hM, hP⟩
      have g1' : w3.cell? ⟨g, 1, none⟩ = some (.slice q2 chs.length k2) := hM.cell g1 (fun e => by have := HVg.out g e; omega)
      clear HPut HG g0 g1 HVg hM
      rcases hP with ⟨r3, rfl, hIn, hO⟩ | ⟨rfl, hIn, hB⟩
      · obtain ⟨E1, hE1⟩ : ∃ E1, E0 ++ groups labs.length ++ symsBytes t (stringsL labs) = E1 := ⟨_, rfl⟩
        have HE1n : Hid (E1.length + (groups chs.length).length + (numsBytes chs).length ≤ 1000000000) := by
          show _ ≤ _
          have h2 := HRm.out
          rw [← hE1]
          simp only [List.length_append]
          omega
        rw [hE1] at hO HNx
        have HO3 := Lib.hid hO
        have HIn := Lib.hid hIn
        obtain ⟨p3, c3, hv3⟩ := hO.shape
        subst hv3
        have HPut := Lib.hid (app_lengths w w3 E1 _ (.slice q2 chs.length k2) chs HO3.out (HAt.out w (Below.refl _ _)).2.2.2 HRb.out.2 HRz.out HE1n.out)
        clear hO hIn HO2 hE1 HRm
        go_wp2_with fail
        refine HPut.out.mono ?_
        rintro en w4 hP
        clear HPut
        rcases hP with ⟨r4, rfl, hne, hok, hO⟩ | ⟨rfl, hbad, hB⟩
        · rw [← HNx.out] at hO
          have HE9 : Hid (recsErr t l = recsErr t (l.drop (i + 1))) := by
            show _ = _
            rw [HSt.out, if_pos (recErr_zero.2 ⟨HIn.out, hne, hok⟩)]
          have HO4 := Lib.hid hO
          obtain ⟨L2, hL2⟩ : ∃ L2, encTo t l (i + 1) = L2 := ⟨_, rfl⟩
          have HL2 := Lib.hid hL2
          rw [hL2] at HO4
          obtain ⟨p4, c4, hv4⟩ := HO4.out.shape
          subst hv4
          clear hO hne hok hL2 HO3 g1'
          go_wp2_with fail
          go_round
          case rel => exact ⟨i + 1, by omega, by go_num, (by show OwnB _ _ _ _; rw [HL2.out]; exact HO4.out), HE9.out⟩
          case measure => simp [intOf]; omega
        · have HBad : Hid (encRcR t l = (23, [])) := by
            have h1 : recErr t (labs, chs) = 23 := by
              rw [recErr, if_pos HIn.out]
              by_cases hc : chs = []
              · rw [if_pos hc]
              · rw [if_neg hc, if_neg (fun h => hbad ⟨hc, h⟩)]
            refine encRcR_bad (by decide) ?_
            rw [HSt.out, h1]; rfl
          have HBw := Lib.hid hB
          clear hbad hB
          go_wp2_with fail
          go_ret2
          exact GotBo.fails HBw.out HBad.out
      · have HBad : Hid (encRcR t l = (14, [])) := by
          have h1 : recErr t (labs, chs) = 14 := by rw [recErr, if_neg hIn]
          refine encRcR_bad (by decide) ?_
          rw [HSt.out, h1]; rfl
        have HBw := Lib.hid hB
        clear hIn hB
        go_wp2_with fail
        go_ret2
        exact GotBo.fails HBw.out HBad.out
    · have hlt' : ¬ (i : Int) < (l.length : Int) := by omega
      have HOf : Hid (encRcR t l = (0, encTo t l i)) := by
        have h1 := HE.out
        rw [List.drop_of_length_le (by omega)] at h1
        show _ = _
        rw [encRcR, h1, encTo_all t l i (by omega)]; rfl
      go_wp2_with fail
      go_ret2
      exact ⟨by rw [HOf.out]; exact ⟨_, rfl, HO.out.row⟩, HO.out.bel⟩
end Go.Proofs.Ytmnagmbokajfpaa

end

section
/- Layer 13, the program's own: Total. -/
set_option linter.unusedVariables false
set_option maxRecDepth 20000
namespace Go.Proofs.Ytmnagmbokajfpaa
open Go Go.RowKit

theorem lens_sum {c : List Int} (h : ∀ n ∈ c, lenOk n) : 0 ≤ c.sum ∧ c.sum ≤ 2147483647 * (c.length : Int) := by
  induction c with
  | nil => simp
  | cons n c ih =>
    obtain ⟨a, b⟩ := ih (fun m hm => h m (by simp [hm]))
    obtain ⟨x, y⟩ := h n (by simp)
    rw [List.sum_cons, List.length_cons]
    omega
theorem totalR_cons (r : Rec) (l : List Rec) : totalR (r :: l) = r.2.sum + totalR l := by simp [totalR]
theorem totalR_append (a b : List Rec) : totalR (a ++ b) = totalR a + totalR b := by simp [totalR, List.map_append, List.sum_append]
theorem chunksR_append (a b : List Rec) : chunksR (a ++ b) = chunksR a + chunksR b := by simp [chunksR, List.map_append, List.sum_append]
theorem totalR_le {l : List Rec} (h : ∀ r ∈ l, ∀ n ∈ r.2, lenOk n) : 0 ≤ totalR l ∧ totalR l ≤ 2147483647 * (chunksR l : Int) := by
  induction l with
  | nil => simp [totalR, chunksR]
  | cons r l ih =>
    obtain ⟨a, b⟩ := ih (fun s hs => h s (by simp [hs]))
    obtain ⟨x, y⟩ := lens_sum (h r (by simp))
    rw [totalR_cons, chunksR_cons]
    omega
theorem take_at {l : List Rec} {i : Nat} {r : Rec} (h : l[i]? = some r) : l.take (i + 1) = l.take i ++ [r] := by rw [List.take_add_one, h]; rfl
/-- A sum under way. -/
theorem total_way {l : List Rec} {i : Nat} {r : Rec} (h : l[i]? = some r) (hok : ∀ r ∈ l, ∀ n ∈ r.2, lenOk n) (hs : chunksR l ≤ 3000) (k : Nat) : 0 ≤ totalR (l.take i) + (r.2.take k).sum ∧ totalR (l.take i) + (r.2.take k).sum ≤ 6442450941000 := by
  obtain ⟨a, b⟩ := totalR_le (l := l.take i) (fun s hs => hok s (List.mem_of_mem_take hs))
  obtain ⟨c, d⟩ := lens_sum (c := r.2.take k) (fun n hn => hok r (List.mem_of_getElem? h) n (List.mem_of_mem_take hn))
  have e : chunksR l = chunksR (l.take i) + r.2.length + chunksR (l.drop (i + 1)) := by
    have h1 : l = l.take i ++ [r] ++ l.drop (i + 1) := by rw [← take_at h, List.take_append_drop]
    have h2 := congrArg chunksR h1
    rw [chunksR_append, chunksR_append] at h2
    rw [h2]; simp [chunksR]
  have f : (r.2.take k).length ≤ r.2.length := by rw [List.length_take]; omega
  omega

set_option maxHeartbeats 8000000 in
theorem prg_total13 (lv : Value) (l : List Rec) (w : World) (hl : RdR w lv l) (hs : SmallL l) (hok : ∀ r ∈ l, ∀ n ∈ r.2, lenOk n) :
    Calls Try.prog 24 #[lv] w fun e w' => e = .returned (.int .i64 (totalR l)) ∧ Below w.heap.size w w' := by
  have HL := Lib.hid hl; have HSm := Lib.hid hs; have HOk := Lib.hid hok
  obtain ⟨pl, cl, hv⟩ := hl.shape
  subst hv
  have hlni : (l.length : Int) ≤ 300 := by have := hs.len; omega
  have HB0 : Hid (Below w.heap.size w w) := Below.refl _ _
  clear hl hs hok
  go_enter Try.func24, Try.ntmps24
  go_wp2_with fail
  go_loopw [3, 10] (fun vv iv wr => ∃ (i : Nat) (z : Int), i ≤ l.length ∧ iv = .int .i64 (i : Int) ∧ vv = .int .i64 z ∧ Hid (z = totalR (l.take i)) ∧ Hid (Below w.heap.size w wr)) (fun _ iv _ => l.length - (intOf iv).toNat)
  case atStart => exact ⟨0, 0, Nat.zero_le _, rfl, rfl, rfl, HB0.out⟩
  case round =>
    obtain ⟨i, z, hi, rfl, rfl, HZ, HB⟩ := hrel
    have him : (i : Int) ≤ 300 := by omega
    by_cases hlt : i < l.length
    · have hlt' : (i : Int) < (l.length : Int) := by omega
      obtain ⟨⟨labs, chs⟩, hr⟩ : ∃ r, l[i]? = some r := ⟨_, List.getElem?_eq_getElem hlt⟩
      obtain ⟨blk, off, h1, h2, e, ⟨q1, k1, e1⟩, ⟨q2, k2, e2⟩, hat⟩ := HL.out.always hr
      simp only at e1 e2
      subst e; subst e1; subst e2
      have hmem := List.mem_of_getElem? hr
      have hcm : (chs.length : Int) ≤ 3000 := by have : chs.length ≤ 3000 := HSm.out.chs hmem; omega
      have HTw := Lib.hid (fun k => total_way hr HOk.out HSm.out.sam k)
      have HNx : Hid (totalR (l.take (i + 1)) = totalR (l.take i) + chs.sum) := by show _ = _; rw [take_at hr, totalR_append]; simp [totalR]
      obtain ⟨d0, d1, _, dc⟩ := hat wr HB.out
      have HDc := Lib.hid dc
      obtain ⟨Z0, hZ0⟩ : ∃ Z0, totalR (l.take i) = Z0 := ⟨_, rfl⟩
      rw [hZ0] at HTw HNx HZ
      have hZz : z = Z0 := HZ.out
      subst hZz
      have hbA : Hid (Below wr.heap.size wr (wr.alloc (.cells #[.slice q1 labs.length k1, .slice q2 chs.length k2] 55))) := (Below.refl _ wr).alloc (Nat.le_refl _) _
      have HDc2 := Lib.hid (HDc.out.below hbA.out)
      have HB2 := Lib.hid (HB.out.trans (hbA.out.mono HB.out.size))
      have HG : Hid (Blk (wr.alloc (.cells #[.slice q1 labs.length k1, .slice q2 chs.length k2] 55)) wr.heap.size [.slice q1 labs.length k1, .slice q2 chs.length k2]) := Blk.new _ _ _
      have g1 : (wr.alloc (.cells #[.slice q1 labs.length k1, .slice q2 chs.length k2] 55)).cell? ⟨wr.heap.size, 1, none⟩ = some (.slice q2 chs.length k2) := HG.out.cell 1
      clear hr hat hmem dc hZ0 HZ HDc hbA HG
      go_wp2_with fail
      generalize wr.alloc (.cells #[.slice q1 labs.length k1, .slice q2 chs.length k2] 55) = w2 at *
      go_loopw [3, 17] (fun vv kv wr2 => ∃ (k : Nat) (y : Int), k ≤ chs.length ∧ kv = .int .i64 (k : Int) ∧ vv = .int .i64 y ∧ Hid (y = z + (chs.take k).sum) ∧ Hid (wr2 = w2)) (fun _ kv _ => chs.length - (intOf kv).toNat)
      case atStart => exact ⟨0, z, Nat.zero_le _, rfl, rfl, (by show _ = _; simp), rfl⟩
      case round =>
        obtain ⟨k, y, hk, rfl, rfl, HY, HW⟩ := hrel
        have hww : wr = w2 := HW.out
        subst hww
        have hkm : (k : Int) ≤ 3000 := by omega
        by_cases hkl : k < chs.length
        · have hkl' : (k : Int) < (chs.length : Int) := by omega
          obtain ⟨n, hn⟩ : ∃ n, chs[k]? = some n := ⟨_, List.getElem?_eq_getElem hkl⟩
          obtain ⟨gc, oc, cc', e, _, _, hcell⟩ := HDc2.out.at (fun e => by have := congrArg List.length e; rw [i64s_length] at this; rw [this] at hkl; simp at hkl)
          simp only [Value.slice.injEq] at e
          obtain ⟨rfl, _, rfl⟩ := e
          have n0 : wr.cell? ⟨gc, oc + k, none⟩ = some (.int .i64 n) := hcell k _ (by rw [i64s, List.getElem?_map, hn]; rfl)
          have hy2 : y + n = z + (chs.take (k + 1)).sum := by rw [List.take_add_one, hn, List.sum_append, HY.out]; simp; omega
          have hyb := HTw.out (k + 1)
          have hya : 0 ≤ y + n ∧ y + n ≤ 6442450941000 := by rw [hy2]; exact hyb
          have HY2 : Hid (y + n = z + (chs.take (k + 1)).sum) := hy2
          obtain ⟨hya1, hya2⟩ := hya
          clear hn hcell hyb hy2 hkl
          go_wp2_with fail
          go_round
          case rel => exact ⟨k + 1, y + n, by omega, by go_num, rfl, HY2.out, trivial⟩
          case measure => simp [intOf]; omega
        · have hkl' : ¬ (k : Int) < (chs.length : Int) := by omega
          have HY2 : Hid (y = totalR (l.take (i + 1))) := by
            show _ = _
            rw [HY.out, HNx.out, List.take_of_length_le (by omega)]
          go_wp2_with fail
          go_round
          case rel => exact ⟨i + 1, y, by omega, by go_num, rfl, HY2.out, HB2.out⟩
          case measure => simp [intOf]; omega
    · have hlt' : ¬ (i : Int) < (l.length : Int) := by omega
      have HZ2 : Hid (z = totalR l) := by
        show _ = _
        rw [HZ.out, List.take_of_length_le (by omega)]
      go_wp2_with fail
      go_ret
      exact ⟨by rw [← HZ2.out]; rfl, HB.out⟩
end Go.Proofs.Ytmnagmbokajfpaa

end

section
/- Layer 13, the program's own: Unused. -/
set_option linter.unusedVariables false
set_option maxRecDepth 20000
namespace Go.Proofs.Ytmnagmbokajfpaa
open Go Go.RowKit

theorem info_bool13 : (Try.prog.info? 4).map (fun i => (i.zero, i.size, i.bytes)) = some (some (.bool false), 1, 1) := by kernel_rfl
/-- Which strings of a table are among some strings. -/
def marks (t us : List ByteArray) : List Bool := t.map fun s => decide (s ∈ us)
theorem marks_length (t us : List ByteArray) : (marks t us).length = t.length := by simp [marks]
theorem marks_nil (t : List ByteArray) : (marks t []).map Value.bool = List.replicate t.length (.bool false) := by
  apply List.ext_getElem?
  intro j
  rw [List.getElem?_map, marks, List.getElem?_map, List.getElem?_replicate]
  by_cases h : j < t.length
  · rw [List.getElem?_eq_getElem h, if_pos h]; simp
  · rw [List.getElem?_eq_none (by omega), if_neg h]; rfl
theorem marks_out {t us : List ByteArray} {s : ByteArray} (h : s ∉ t) : marks t (us ++ [s]) = marks t us := by
  unfold marks
  refine List.map_congr_left fun x hx => ?_
  have : x ≠ s := fun e => h (e ▸ hx)
  simp [this]
theorem marks_set {t us : List ByteArray} {s : ByteArray} {j : Nat} (ht : t.Nodup) (h : t[j]? = some s) : (marks t us).set j true = marks t (us ++ [s]) := by
  apply List.ext_getElem?
  intro i
  rw [List.getElem?_set, marks_length]
  have hj := (List.getElem?_eq_some_iff.1 h).1
  by_cases e : j = i
  · subst e
    rw [if_pos rfl, if_pos hj, marks, List.getElem?_map, h]
    simp
  · rw [if_neg e]
    by_cases hi : i < t.length
    · simp only [marks, List.getElem?_map, List.getElem?_eq_getElem hi, Option.map_some]
      have hne : t[i] ≠ s := fun e2 => by
        have h2 : t[j] = s := (List.getElem?_eq_some_iff.1 h).2
        rcases Nat.lt_or_gt_of_ne e with f | f
        · exact List.pairwise_iff_getElem.1 ht j i hj hi f (h2.trans e2.symm)
        · exact List.pairwise_iff_getElem.1 ht i j hi hj f (e2.trans h2.symm)
      congr 1
      simp [hne]
    · rw [List.getElem?_eq_none (by rw [marks_length]; omega), List.getElem?_eq_none (by rw [marks_length]; omega)]
theorem firstI_map {α β : Type} (p : β → Bool) (f : α → β) (l : List α) : firstI p (l.map f) = firstI (fun x => p (f x)) l := by
  unfold firstI
  rw [List.findIdx?_map]
  rfl
theorem usedR_take {l : List Rec} {i : Nat} {r : Rec} (h : l[i]? = some r) : usedR (l.take (i + 1)) = usedR (l.take i) ++ stringsL r.1 := by
  rw [usedR, List.take_add_one, h, List.flatMap_append]; simp [usedR]

set_option maxHeartbeats 8000000 in
theorem index_false (uv : Value) (U : List Bool) (w : World) (hu : Rd w 1 uv U.length (U.map Value.bool)) (hN : U.length ≤ 1000000) :
    Calls Try.prog 42 #[uv, .bool false] w fun e w' => e = .returned (.int .i64 (firstI (fun b => !b) U)) ∧ w' = w := by
  have HU0 := Lib.hid hu
  obtain ⟨q, c, hv⟩ := hu.shape
  subst hv
  have hNi : (U.length : Int) ≤ 1000000 := by omega
  clear hu
  go_enter Try.func42, Try.ntmps42
  go_wp2_with fail
  go_loop [8] (fun iv => ∃ (i : Nat), i ≤ U.length ∧ iv = .int .i64 (i : Int) ∧ Hid (∀ x ∈ U.take i, (!x) = false)) (fun iv => U.length - (intOf iv).toNat)
  case atStart => exact ⟨0, Nat.zero_le _, rfl, fun x hx => by simp at hx⟩
  case round =>
    obtain ⟨i, hi, rfl, HU⟩ := hrel
    have hib : (i : Int) ≤ 1000000 := by omega
    by_cases hlt : i < U.length
    · have hlti : (i : Int) < (U.length : Int) := by omega
      obtain ⟨u, hu⟩ : ∃ u, U[i]? = some u := ⟨_, List.getElem?_eq_getElem hlt⟩
      obtain ⟨b, off, c', e, _, _, hcell⟩ := HU0.out.at (fun e => by have := congrArg List.length e; simp at this; subst this; simp at hlt)
      simp only [Value.slice.injEq] at e
      obtain ⟨rfl, _, rfl⟩ := e
      have hci : w.cell? ⟨b, off + i, none⟩ = some (.bool u) := hcell i _ (by rw [List.getElem?_map, hu]; rfl)
      clear hcell
      cases u with
      | true =>
        have HU2 : Hid (∀ x ∈ U.take (i + 1), (!x) = false) := not_take_succ HU.out hu rfl
        clear hu
        go_wp2_with fail
        go_round
        case rel => exact ⟨i + 1, by omega, by go_num, HU2.out⟩
        case measure => simp [intOf]; omega
      | false =>
        have HX : Hid (firstI (fun b => !b) U = (i : Int)) := firstI_at HU.out hu rfl
        clear hu
        go_wp2_with fail
        go_ret
        exact ⟨by rw [HX.out]; rfl, rfl⟩
    · have hlti : ¬ (i : Int) < (U.length : Int) := by omega
      have HX : Hid (firstI (fun b => !b) U = -1) := firstI_none (fun x hx => HU.out x (by rw [List.take_of_length_le (by omega)]; exact hx))
      go_wp2_with fail
      go_ret
      exact ⟨by rw [HX.out]; rfl, rfl⟩

set_option maxHeartbeats 16000000 in
theorem prg_unused13 (tv lv : Value) (t : List ByteArray) (l : List Rec) (w : World) (ht : Rd w 1 tv t.length (strs t)) (htn : t.length ≤ 1000000) (hta : AscB ltS t) (hl : RdR w lv l) (hs : SmallR l) :
    Calls Try.prog 23 #[tv, lv] w fun e w' => e = .returned (.int .i64 (unusedR t l)) ∧ Below w.heap.size w w' := by
  have HT := Lib.hid ht; have HTn := Lib.hid htn; have HTa := Lib.hid hta; have HL := Lib.hid hl; have HSm := Lib.hid hs
  obtain ⟨pt, ct, hv⟩ := ht.shape
  subst hv
  obtain ⟨pl, cl, hv⟩ := hl.shape
  subst hv
  have hlni : (l.length : Int) ≤ 100000 := by have := hs.len; omega
  have htni : (t.length : Int) ≤ 1000000 := by omega
  obtain ⟨i0, hi0, hz0, hz1, hz2⟩ := info_parts info_bool13
  have HI := Lib.hid hi0; have HZ := Lib.hid hz0; have HZ1 := Lib.hid hz1
  have HZ2 : Hid (i0.bytes * t.length ≤ 281474976710656 ∧ t.length ≤ maxLen) := by show _ ∧ _; unfold maxLen; rw [hz2]; omega
  clear ht htn hta hl hs hi0 hz0 hz1 hz2
  go_enter Try.func23, Try.ntmps23
  go_wp2_with (first
    | (at_make; refine wpList_make_full _ rfl _ _ _ rfl w.heap.size 4 i0 (.bool false) 1 Try.underlying82 HI.out HZ.out HZ1.out _ _ _ _ t.length rfl rfl rfl rfl HZ2.out.1 HZ2.out.2 (Nat.le_refl _) ?_; intro w4 hown hgr)
    | go_in)
  obtain ⟨g, hg⟩ : ∃ g, w.heap.size = g := ⟨_, rfl⟩
  have HGz := Lib.hid hg
  have HU0 : Hid (Own1 4 Value.bool w w4 (marks t []) (.slice (some ⟨g, 0, none⟩) t.length t.length)) := by
    have hb4 : Below w.heap.size w w4 := (Mods.of_grown hgr).below (Nat.le_refl _) (fun k _ e => by cases e)
    refine ⟨?_, hb4⟩
    have e : (madeCells (Value.bool false).cells t.length).toList = (marks t []).map Value.bool := by rw [marks_nil]; exact toList_madeCells_one _ _
    rw [← e, marks_length, ← hg]
    simpa using hown
  rw [hg]
  clear hown hgr HZ2 HZ1 HZ HI hg
  try go_frame
  go_wp2_with fail
  go_loopw [17] (fun iv wr => ∃ (i : Nat), i ≤ l.length ∧ iv = .int .i64 (i : Int) ∧ Hid (Own1 4 Value.bool w wr (marks t (usedR (l.take i))) (.slice (some ⟨g, 0, none⟩) t.length t.length))) (fun iv _ => l.length - (intOf iv).toNat)
  case atStart => exact ⟨0, Nat.zero_le _, rfl, HU0.out⟩
  case round =>
    obtain ⟨i, hi, rfl, HU⟩ := hrel
    clear HU0
    have him : (i : Int) ≤ 100000 := by omega
    by_cases hlt : i < l.length
    · have hlt' : (i : Int) < (l.length : Int) := by omega
      obtain ⟨⟨labs, chs⟩, hr⟩ : ∃ r, l[i]? = some r := ⟨_, List.getElem?_eq_getElem hlt⟩
      obtain ⟨blk, off, h1, h2, e, ⟨q1, k1, e1⟩, ⟨q2, k2, e2⟩, hat⟩ := HL.out.always hr
      simp only at e1 e2
      subst e; subst e1; subst e2
      have hmem := List.mem_of_getElem? hr
      have HLn : Hid (labs.length ≤ 100000) := HSm.out.lab _ hmem
      have HNx : Hid (usedR (l.take (i + 1)) = usedR (l.take i) ++ stringsL labs) := usedR_take hr
      have hbA : Hid (Below wr.heap.size wr (wr.alloc (.cells #[.slice q1 labs.length k1, .slice q2 chs.length k2] 55))) := (Below.refl _ wr).alloc (Nat.le_refl _) _
      have HU2 := Lib.hid (HU.out.below hbA.out)
      obtain ⟨d0, d1, _, _⟩ := hat wr HU.out.bel
      have HLb : Hid (Rd (wr.alloc (.cells #[.slice q1 labs.length k1, .slice q2 chs.length k2] 55)) 2 (.slice q1 labs.length k1) labs.length (labCells labs)) := (hat _ HU2.out.bel).2.2.1
      have HG : Hid (Blk (wr.alloc (.cells #[.slice q1 labs.length k1, .slice q2 chs.length k2] 55)) wr.heap.size [.slice q1 labs.length k1, .slice q2 chs.length k2]) := Blk.new _ _ _
      have g0 : (wr.alloc (.cells #[.slice q1 labs.length k1, .slice q2 chs.length k2] 55)).cell? ⟨wr.heap.size, 0, none⟩ = some (.slice q1 labs.length k1) := HG.out.cell 0
      have HSr := Lib.hid (labStrings_any (.slice q1 labs.length k1) labs _ HLb.out (by have := HLn.out; omega))
      clear hr hat hmem HU hbA HG
      obtain ⟨us, hus⟩ : ∃ us, usedR (l.take i) = us := ⟨_, rfl⟩
      rw [hus] at HU2 HNx
      clear hus
      go_wp2_with fail
      generalize wr.alloc (.cells #[.slice q1 labs.length k1, .slice q2 chs.length k2] 55) = w2 at *
      refine HSr.out.mono ?_
      rintro en w3 ⟨sv, rfl, hS⟩
      obtain ⟨S, hSe⟩ : ∃ S, stringsL labs = S := ⟨_, rfl⟩
      rw [hSe] at hS HNx
      have HU3 : Hid (Own1 4 Value.bool w w3 (marks t (us ++ S.take 0)) (.slice (some ⟨g, 0, none⟩) t.length t.length)) := by
        show Own1 _ _ _ _ _ _
        rw [List.take_zero, List.append_nil]
        exact HU2.out.below hS.bel
      obtain ⟨ps, cs, hsv⟩ := hS.shape
      subst hsv
      have HSn : Hid (S.length = 2 * labs.length) := by show _ = _; rw [← hSe]; exact stringsL_len labs
      have hSi : (S.length : Int) ≤ 200000 := by have := HSn.out; have := HLn.out; omega
      have HSg : Hid (∀ k, (Value.slice ps S.length cs).ownBlock = some k → g < k) := fun k hk => by have h1 := (hS.row.lt k hk).1; have h2 := (HU2.out.row.lt g rfl).2; omega
      have HSd := Lib.hid hS.rd
      clear hS hSe HSr HU2 g0 d0 d1 HLb
      go_wp2_with fail
      go_loopw [25] (fun kv wr2 => ∃ (k : Nat), k ≤ S.length ∧ kv = .int .i64 (k : Int) ∧ Hid (Own1 4 Value.bool w wr2 (marks t (us ++ S.take k)) (.slice (some ⟨g, 0, none⟩) t.length t.length)) ∧ Hid (Rd wr2 1 (.slice ps S.length cs) S.length (strs S))) (fun kv _ => S.length - (intOf kv).toNat)
      case atStart => exact ⟨0, Nat.zero_le _, rfl, HU3.out, HSd.out⟩
      case round =>
        obtain ⟨k, hk, rfl, HU4, HS4⟩ := hrel
        clear HU3 HSd
        have hkm : (k : Int) ≤ 200000 := by omega
        by_cases hkl : k < S.length
        · have hkl' : (k : Int) < (S.length : Int) := by omega
          obtain ⟨s, hs⟩ : ∃ s, S[k]? = some s := ⟨_, List.getElem?_eq_getElem hkl⟩
          obtain ⟨gs, os, cs', e, _, _, hcell⟩ := HS4.out.at (fun e => by have := congrArg List.length e; rw [strs_length] at this; rw [this] at hkl; simp at hkl)
          simp only [Value.slice.injEq] at e
          obtain ⟨rfl, _, rfl⟩ := e
          have HTk : Hid (us ++ S.take (k + 1) = us ++ S.take k ++ [s]) := by show _ = _; rw [List.take_add_one, hs]; simp
          have HIx := Lib.hid (fun W h => index_met (.slice pt t.length ct) t s W h HTn.out HTa.out)
          have HTw : Hid (Rd wr 1 (.slice pt t.length ct) t.length (strs t)) := HT.out.below HU4.out.bel
          have s0 : wr.cell? ⟨gs, os + k, none⟩ = some (.string s) := hcell k _ (by rw [strs, List.getElem?_map, hs]; rfl)
          clear hs hcell hkl
          go_wp2_with fail
          refine (HIx.out wr HTw.out).mono ?_
          rintro en w5 ⟨rfl, hB5⟩
          have HU5 := Lib.hid (HU4.out.below hB5)
          have HS5 := Lib.hid (HS4.out.below hB5)
          clear HIx s0 HU4 HS4 hB5
          by_cases hin : s ∈ t
          · obtain ⟨j, hj, hjt⟩ := findS_in hin
            have hjl := (List.getElem?_eq_some_iff.1 hjt).1
            rw [hj, show max (j : Int) 0 = (j : Int) from Int.max_eq_left (by omega), show decide ((0 : Int) ≤ (j : Int)) = true from decide_eq_true (by omega)]
            have hji : (j : Int) < (t.length : Int) := by omega
            have HU6 : Hid (Own1 4 Value.bool w (w5.setCell ⟨g, j, none⟩ (.bool true)) (marks t (us ++ S.take (k + 1))) (.slice (some ⟨g, 0, none⟩) t.length t.length)) := HU5.out.stored (by rw [HTk.out]; exact marks_set (asc_nodup HTa.out) hjt)
            have HS6 : Hid (Rd (w5.setCell ⟨g, j, none⟩ (.bool true)) 1 (.slice (some ⟨gs, os, none⟩) S.length cs) S.length (strs S)) := HS5.out.mods (Mods.set (fun k => k = g) _ _ _ (fun _ => rfl)) (fun k hk e => by have := HSg.out k hk; omega)
            obtain ⟨u1, u0, f0⟩ : ∃ u, w5.cell? ⟨g, j, none⟩ = some (.bool u) ∧ w5.frozen? ⟨g, j, none⟩ = false := ⟨_, (HU5.out.cell (i := j) (by rw [marks_length]; exact hjl)).1, (HU5.out.cell (i := j) (by rw [marks_length]; exact hjl)).2⟩
            clear hj hjt hjl hin
            go_wp2_with fail
            go_round
            case rel => exact ⟨k + 1, by omega, by go_num, HU6.out, HS6.out⟩
            case measure => simp [intOf]; omega
          · rw [findS_out hin]
            rw [show max (-1 : Int) 0 = 0 from rfl, show decide ((0 : Int) ≤ -1) = false from rfl]
            have HU6 : Hid (Own1 4 Value.bool w w5 (marks t (us ++ S.take (k + 1))) (.slice (some ⟨g, 0, none⟩) t.length t.length)) := by
              show Own1 _ _ _ _ _ _
              rw [HTk.out, marks_out hin]
              exact HU5.out
            clear hin
            go_wp2_with fail
            go_round
            case rel => exact ⟨k + 1, by omega, by go_num, HU6.out, HS5.out⟩
            case measure => simp [intOf]; omega
        · have hkl' : ¬ (k : Int) < (S.length : Int) := by omega
          have HU6 : Hid (Own1 4 Value.bool w wr (marks t (usedR (l.take (i + 1)))) (.slice (some ⟨g, 0, none⟩) t.length t.length)) := by
            show Own1 _ _ _ _ _ _
            rw [HNx.out]
            have := HU4.out
            rw [List.take_of_length_le (by omega)] at this
            exact this
          go_wp2_with fail
          go_round
          case rel => exact ⟨i + 1, by omega, by go_num, HU6.out⟩
          case measure => simp [intOf]; omega
    · have hlt' : ¬ (i : Int) < (l.length : Int) := by omega
      rw [List.take_of_length_le (by omega)] at HU
      have HX := Lib.hid (index_false (.slice (some ⟨g, 0, none⟩) t.length t.length) (marks t (usedR l)) wr (by have := HU.out.rd; rw [marks_length] at this ⊢; exact this) (by rw [marks_length]; exact HTn.out))
      have HF : Hid (firstI (fun b => !b) (marks t (usedR l)) = unusedR t l) := by
        show _ = _
        rw [marks, firstI_map, unusedR]
        congr 1
        funext s
        by_cases h : s ∈ usedR l <;> simp [h]
      have HBw := Lib.hid HU.out.bel
      go_wp2_with fail
      refine HX.out.mono ?_
      rintro en w5 ⟨rfl, rfl⟩
      rw [HF.out]
      clear HX
      go_wp2_with fail
      go_ret
      exact ⟨rfl, HBw.out⟩
end Go.Proofs.Ytmnagmbokajfpaa

end

section
/- Layer 4: the program's reader: At, Err, End, Fail, of a reader and of nil. -/
set_option linter.unusedVariables false
set_option maxRecDepth 20000
namespace Go.Proofs.Ytmnagmbokajfpaa
open Go Go.RowKit

theorem rd_at (q : Nat) (v : Value) (B : List Nat) (a : Nat) (e : Int) (w : World) (h : RRd w q v B a e) :
    Calls Try.prog 48 #[.pointer (some ⟨q, 0, none⟩)] w fun en w' => en = .returned (.int .i64 (a : Int)) ∧ w' = w := by
  obtain ⟨c0, c1, c2, f1, f2⟩ := h.cells
  clear h
  go_enter Try.func48, Try.ntmps48
  go_wp2
  go_ret
  exact ⟨rfl, rfl⟩
theorem nil_at (w : World) : Calls Try.prog 48 #[.pointer none] w fun en w' => en = .returned (.int .i64 0) ∧ w' = w := by
  go_enter Try.func48, Try.ntmps48
  go_wp2
  go_ret
  exact ⟨rfl, rfl⟩
theorem rd_err (q : Nat) (v : Value) (B : List Nat) (a : Nat) (e : Int) (w : World) (h : RRd w q v B a e) :
    Calls Try.prog 50 #[.pointer (some ⟨q, 0, none⟩)] w fun en w' => en = .returned (.int .i64 e) ∧ w' = w := by
  obtain ⟨c0, c1, c2, f1, f2⟩ := h.cells
  clear h
  go_enter Try.func50, Try.ntmps50
  go_wp2
  go_ret
  exact ⟨rfl, rfl⟩
theorem nil_err (w : World) : Calls Try.prog 50 #[.pointer none] w fun en w' => en = .returned (.int .i64 1) ∧ w' = w := by
  go_enter Try.func50, Try.ntmps50
  go_wp2
  go_ret
  exact ⟨rfl, rfl⟩
theorem rd_fail (q : Nat) (v : Value) (B : List Nat) (a : Nat) (e x : Int) (w : World) (h : RRd w q v B a e) :
    Calls Try.prog 49 #[.pointer (some ⟨q, 0, none⟩), .int .i64 x] w fun en w' => en = .returned (.tuple #[]) ∧ RRd w' q v B a (if e = 0 then x else e) ∧ Mods (fun k => k = q) w w' := by
  obtain ⟨c0, c1, c2, f1, f2⟩ := h.cells
  have H := Lib.hid h
  clear h
  by_cases he : e = 0
  · subst he
    go_enter Try.func49, Try.ntmps49
    go_wp2
    go_end0
    exact ⟨rfl, by simpa using H.out.setErr x, mods_set _ _ _ _⟩
  · have heb : (e == 0) = false := by rw [beq_eq_false_iff_ne]; exact he
    go_enter Try.func49, Try.ntmps49
    go_wp2
    go_end0
    exact ⟨rfl, by simpa [he] using H.out, Mods.refl _ _⟩
theorem nil_fail (x : Int) (w : World) : Calls Try.prog 49 #[.pointer none, .int .i64 x] w fun en w' => en = .returned (.tuple #[]) ∧ w' = w := by
  go_enter Try.func49, Try.ntmps49
  go_wp2
  go_end0
  exact ⟨rfl, rfl⟩
set_option maxHeartbeats 400000 in
theorem rd_end (q : Nat) (v : Value) (B : List Nat) (a : Nat) (e : Int) (w : World) (h : RRd w q v B a e) :
    Calls Try.prog 33 #[.pointer (some ⟨q, 0, none⟩)] w fun en w' => en = .returned (.int .i64 (if e = 0 ∧ a < B.length then 4 else e)) ∧ ∃ n, w' = w.drewN n := by
  have HG := Lib.hid (rd_err q v B a e w h)
  obtain ⟨c0, c1, c2, f1, f2⟩ := h.cells
  obtain ⟨p, c, hv⟩ := h.rd.shape
  subst hv
  clear h
  by_cases he : e = 0
  · subst he
    by_cases hlt : a < B.length
    · have hlt2 : (a : Int) < (B.length : Int) := by omega
      have HE : Hid ((if (0 : Int) = 0 ∧ a < B.length then (4 : Int) else 0) = 4) := if_pos ⟨rfl, hlt⟩
      rw [HE.out]
      go_enter Try.func33, Try.ntmps33
      go_wp2_with fail
      refine HG.out.mono ?_
      rintro en w1 ⟨rfl, rfl⟩
      go_wp2_with fail
      go_quiet (fail)
      go_wp2_with fail
      go_ret
      exact ⟨rfl, _, rfl⟩
    · have hlt2 : ¬ (a : Int) < (B.length : Int) := by omega
      have HE : Hid ((if (0 : Int) = 0 ∧ a < B.length then (4 : Int) else 0) = 0) := if_neg (fun h => hlt h.2)
      rw [HE.out]
      go_enter Try.func33, Try.ntmps33
      go_wp2_with fail
      refine HG.out.mono ?_
      rintro en w1 ⟨rfl, rfl⟩
      go_wp2_with fail
      go_quiet (fail)
      go_wp2_with fail
      go_ret
      exact ⟨rfl, _, rfl⟩
  · have HE : Hid ((if e = 0 ∧ a < B.length then (4 : Int) else e) = e) := if_neg (fun h => he h.1)
    rw [HE.out]
    have heb : (e == 0) = false := by rw [beq_eq_false_iff_ne]; exact he
    go_enter Try.func33, Try.ntmps33
    go_wp2_with fail
    refine HG.out.mono ?_
    rintro en w1 ⟨rfl, rfl⟩
    go_wp2_with fail
    go_ret
    exact ⟨rfl, 0, rfl⟩
theorem nil_end (w : World) : Calls Try.prog 33 #[.pointer none] w fun en w' => en = .returned (.int .i64 1) ∧ w' = w := by
  have HG := Lib.hid (nil_err w)
  go_enter Try.func33, Try.ntmps33
  go_wp2_with fail
  refine HG.out.mono ?_
  rintro en w1 ⟨rfl, rfl⟩
  go_wp2_with fail
  go_ret
  exact ⟨rfl, rfl⟩
end Go.Proofs.Ytmnagmbokajfpaa

end

section
/- A slice between two bounds. No program in sight. -/
set_option linter.unusedVariables false
namespace Go.Proofs.Ytmnagmbokajfpaa
open Go Go.RowKit

/-- 's[i:k]'. -/
theorem wpList_fromTo {P : Program} {t e : TypeId} {sz bytes : Nat} (hE : Elem P t e sz bytes) (w : World) (v : Value) (n i k : Nat) (vs : List Value) (h0 : Rd w sz v n vs) (hi : i ≤ k) (hk : k ≤ n)
    {ops : Array Oper} {rest : List Oper} {o : Oper} {a : Act} {Q : Exit → Act → World → Prop} (hgd : Region.wanted o (yielded ops a.tmps) = true) (s x y : Operand) (ho : o.op = .slice t s (some x) (some y) none)
    (hs : a.eval s = v) (hx : a.eval x = .int .i64 (i : Int)) (hy : a.eval y = .int .i64 (k : Int))
    (h : ∀ p c, Rd w sz (.slice p (k - i) c) (k - i) ((vs.take (k * sz)).drop (i * sz)) → wpList P ops Q rest (a.put o.dst (.slice p (k - i) c)) w) : wpList P ops Q (o :: rest) a w := by
  obtain ⟨p, c, hv⟩ := h0.shape
  subst hv
  have hnc : n ≤ c := by obtain ⟨_, _, e, _, h, _⟩ := h0; cases e; exact h
  have hr := exec_fromTo hE w p n c i k hi (by omega) s x y ho hs hx hy
  have hR := h0.fromTo i k hi hk
  obtain ⟨p2, c2, hs2⟩ := hR.shape
  rw [hs2] at hr hR
  refine BigFrame.wpList_want hgd fun K hK => ?_
  unfold Oper.wp
  rw [hr]
  exact hK _ _ (h _ _ hR)
end Go.Proofs.Ytmnagmbokajfpaa

end

section
/- Layer 4: what a function that reads at an offset gives back; a slice between two bounds. -/
set_option linter.unusedVariables false
namespace Go.Proofs.Ytmnagmbokajfpaa
open Go Go.RowKit


/-- What a function that reads at an offset gives back: a value, the offset behind it and OK, or zeros and the error. -/
def Tup {α : Type} (o : Out α) (val : α → Value) (z : Value) : Value := match o with
  | .ok x b => .tuple #[val x, .int .i64 (b : Int), .int .i64 0]
  | .bad e => .tuple #[z, .int .i64 0, .int .i64 (e : Int)]

end Go.Proofs.Ytmnagmbokajfpaa

end

section
/- Layer 2: Get. -/
set_option linter.unusedVariables false
namespace Go.Proofs.Ytmnagmbokajfpaa
open Go Go.RowKit

set_option maxHeartbeats 400000 in
theorem get_arg (v : Value) (l : List Nat) (o : Int) (w : World) (h : Rd w 1 v l.length (u8s l)) (ho : o < 0 ∨ (l.length : Int) < o) :
    Calls Try.prog 69 #[v, .int .i64 o] w fun e w' => e = .returned (.tuple #[.int .u64 0, .int .i64 0, .int .i64 2]) ∧ w = w' := by
  obtain ⟨p, c, hv⟩ := h.shape
  subst hv
  clear h
  by_cases hneg : o < 0
  · clear ho
    go_enter Try.func69, Try.ntmps69
    go_wp2_with fail
    go_ret3
    exact ⟨rfl, rfl⟩
  · have ho' : (l.length : Int) < o := by omega
    clear ho
    go_enter Try.func69, Try.ntmps69
    go_wp2_with fail
    go_ret3
    exact ⟨rfl, rfl⟩

set_option maxHeartbeats 400000 in
theorem get_in (v : Value) (l : List Nat) (o : Nat) (w : World) (h : Rd w 1 v l.length (u8s l)) (ho : o ≤ l.length) (hl : ∀ c ∈ l, c < 256) :
    Calls Try.prog 69 #[v, .int .i64 (o : Int)] w fun e w' => e = .returned (.tuple #[.int .u64 ((readAt l o).1 : Int), .int .i64 (readAt l o).2.1, .int .i64 ((readAt l o).2.2 : Int)]) ∧ w = w' := by
  obtain ⟨p, c, hv⟩ := h.shape
  subst hv
  have hle : ¬ (l.length : Int) < (o : Int) := by omega
  have H := Lib.hid h; clear h
  go_enter Try.func69, Try.ntmps69
  go_wp2_with (refine wpList_from Try.elemU8 _ _ _ o _ H.out ho rfl _ _ rfl rfl rfl ?_; intro p2 c2 h2)
  have H2 : Hid (Rd w 1 (.slice p2 (l.length - o) c2) (l.drop o).length (u8s (l.drop o))) := by
    show Rd _ _ _ _ _
    rw [List.length_drop]
    simpa [u8s, List.map_drop] using h2
  have HM : Hid (∀ c ∈ l.drop o, c < 256) := fun c hc => hl c (List.mem_of_mem_drop hc)
  have HR : Hid (∀ a n e, readFrom (l.drop o) 0 0 = (a, n, e) → readAt l o = (a, (if e = 0 then (o : Int) + n else 0), e)) := fun a n e h => readAt_in ho h
  have hom : o + (l.drop o).length ≤ maxLen := by have := H.out.le; rw [List.length_drop]; omega
  have hml : l.length - o = (l.drop o).length := by simp
  rw [hml] at H2 ⊢
  clear h2 hl H hml
  generalize l.drop o = d at *
  go_loop [7, 22] (fun x i => ∃ (k y : Nat), i = .int .i64 (k : Int) ∧ x = .int .u64 (y : Int) ∧ k ≤ d.length ∧ k ≤ 9 ∧ y < 2 ^ (7 * k) ∧ Hid (readFrom d 0 0 = readFrom (d.drop k) k y)) (fun _ i => d.length - (intOf i).toNat)
  case atStart => exact ⟨0, 0, rfl, rfl, by omega, by omega, by simp, rfl⟩
  case round =>
    obtain ⟨k, y, rfl, rfl, hk, hk9, hy, hrf⟩ := hrel
    by_cases hlt : k < d.length
    · have hlt' : (k : Int) < (d.length : Int) := by omega
      obtain ⟨b, off, c', e, _, _, hc⟩ := H2.out.at (fun e => by have := congrArg List.length e; rw [u8s_length] at this; simp at this; subst this; simp at hlt)
      simp only [Value.slice.injEq] at e
      obtain ⟨rfl, _, rfl⟩ := e
      obtain ⟨u, hu⟩ : ∃ u, d[k] = u := ⟨_, rfl⟩
      have hcell : w.cell? ⟨b, off + k, none⟩ = some (.int .u8 (u : Int)) := by rw [← hu]; exact hc k _ (u8s_get _ k hlt)
      have hu256 : u < 256 := hu ▸ HM.out _ (List.getElem_mem hlt)
      have hdrop : d.drop k = u :: d.drop (k + 1) := by rw [← hu]; exact List.drop_eq_getElem_cons hlt
      have HF : Hid (readFrom d 0 0 = readFrom (u :: d.drop (k + 1)) k y) := by show _ = _; rw [← hdrop]; exact hrf.out
      clear hc hdrop hrf hu
      by_cases h9 : k = 9 ∧ 1 < u
      · obtain ⟨rfl, h1⟩ := h9
        have h1' : (1 : Int) < (u : Int) := by omega
        have HA := Lib.hid (HR.out 0 0 6 (by rw [HF.out, readFrom, if_pos ⟨rfl, h1⟩]))
        go_wp2
        go_ret3
        exact ⟨by rw [HA.out]; rfl, rfl⟩
      · have HY := Lib.hid hy
        clear hy
        by_cases hk9' : k = 9
        · subst hk9'
          have h1 : ¬ (1 : Int) < (u : Int) := by omega
          by_cases hu0 : u = 0
          · subst hu0
            have HA := Lib.hid (HR.out 0 0 5 (by rw [HF.out, readFrom, if_neg (by omega), if_neg (by omega), if_pos (by omega)]))
            go_wp2
            go_ret3
            exact ⟨by rw [HA.out]; rfl, rfl⟩
          · obtain rfl : u = 1 := by omega
            have HA := Lib.hid (HR.out (y + 2 ^ (7 * 9)) 10 0 (by rw [HF.out, readFrom, if_neg (by omega), if_neg (by omega), if_neg (by omega), Nat.one_mul]))
            have HW : Hid (wrap64 (wrap64 ((o : Int) + 9) + 1) = (o : Int) + 10) := by show _ = _; unfold maxLen at hom; simp only [wrap64]; omega
            have HV := Lib.hid (or_top y HY.out)
            clear HY HF HR
            generalize 2 ^ (7 * 9) = T at HA HV
            go_wp2
            go_ret3
            exact ⟨by rw [HA.out, HV.out, HW.out, if_pos trivial]; rfl, rfl⟩
        · have hk9i : ¬ (k : Int) = 9 := by omega
          have hkb : (0 : Int) ≤ 7 * (k : Int) ∧ 7 * (k : Int) < 64 := by omega
          have HO := Lib.hid (or_shift y u k HY.out (by omega) (shift_small (by omega)))
          have HN := Lib.hid (next_small (u := u) HY.out)
          clear h9
          by_cases hbig : 128 ≤ u
          · have hbig' : (128 : Int) ≤ (u : Int) := by omega
            have HD : Hid (readFrom d 0 0 = readFrom (d.drop (k + 1)) (k + 1) (y + u % 128 * 2 ^ (7 * k))) := by show _ = _; rw [HF.out, readFrom, if_neg (by omega), if_pos hbig]
            go_wp2
            go_round
            case rel => exact ⟨k + 1, _, by go_num, by rw [HO.out], by omega, by omega, HN.out, HD⟩
            case measure => simp [intOf]; omega
          · have hbig' : ¬ (128 : Int) ≤ (u : Int) := by omega
            by_cases h0 : u = 0 ∧ 0 < k
            · obtain ⟨rfl, hk0⟩ := h0
              have hk0' : (0 : Int) < (k : Int) := by omega
              have HA := Lib.hid (HR.out 0 0 5 (by rw [HF.out, readFrom, if_neg (by omega), if_neg (by omega), if_pos ⟨rfl, hk0⟩]))
              go_wp2
              go_ret3
              exact ⟨by rw [HA.out]; rfl, rfl⟩
            · have HA := Lib.hid (HR.out (y + u * 2 ^ (7 * k)) (k + 1) 0 (by rw [HF.out, readFrom, if_neg (by omega), if_neg hbig, if_neg h0]))
              by_cases hu0 : u = 0
              · subst hu0
                obtain rfl : k = 0 := by omega
                obtain rfl : y = 0 := by simpa using HY.out
                rw [Nat.add_zero] at hcell
                have hs : (o : Int) + 1 ≤ 9223372036854775807 := by unfold maxLen at hom; omega
                go_wp2
                go_ret3
                exact ⟨by rw [HA.out]; simp; rfl, rfl⟩
              · have hu0' : ¬ (u : Int) = 0 := by omega
                have hs : (o : Int) + k + 1 ≤ 9223372036854775807 := by unfold maxLen at hom; omega
                have HU : Hid (u % 128 = u) := by show _ = _; omega
                go_wp2
                go_ret3
                exact ⟨by rw [HA.out, HO.out, HU.out]; simp; omega, rfl⟩
    · have hlt' : ¬ (k : Int) < (d.length : Int) := by omega
      have HA := Lib.hid (HR.out 0 0 3 (by rw [hrf.out, List.drop_eq_nil_of_le (by omega), readFrom]))
      go_wp2
      go_ret3
      exact ⟨by rw [HA.out]; rfl, rfl⟩

theorem readAt_arg {l : List Nat} {o : Int} (h : o < 0 ∨ (l.length : Int) < o) : readAt l o = (0, 0, 2) := by rw [readAt, if_pos h]
theorem get_any (v : Value) (l : List Nat) (o : Int) (w : World) (h : Rd w 1 v l.length (u8s l)) (hl : ∀ c ∈ l, c < 256) :
    Calls Try.prog 69 #[v, .int .i64 o] w fun e w' => e = .returned (.tuple #[.int .u64 ((readAt l o).1 : Int), .int .i64 (readAt l o).2.1, .int .i64 ((readAt l o).2.2 : Int)]) ∧ w = w' := by
  by_cases ho : o < 0 ∨ (l.length : Int) < o
  · rw [readAt_arg ho]
    exact get_arg v l o w h ho
  · obtain ⟨k, rfl⟩ : ∃ k : Nat, o = k := ⟨o.toNat, by omega⟩
    exact get_in v l k w h (by omega) hl

theorem readAt_lt {l : List Nat} (hl : ∀ c ∈ l, c < 256) (o : Int) : (readAt l o).1 < 18446744073709551616 := by
  rw [readAt]
  split
  · decide
  · exact readFrom_lt (fun c hc => hl c (List.mem_of_mem_drop hc))

end Go.Proofs.Ytmnagmbokajfpaa

end

section
/- Layer 4: getUint. -/
set_option linter.unusedVariables false
set_option maxRecDepth 20000
namespace Go.Proofs.Ytmnagmbokajfpaa
open Go Go.RowKit

set_option maxHeartbeats 400000 in
theorem get_uint (v : Value) (B : List Nat) (a most : Nat) (w : World) (h : Rd w 1 v B.length (u8s B)) (hB : ∀ c ∈ B, c < 256) (ha : a ≤ B.length) :
    Calls Try.prog 67 #[v, .int .i64 (a : Int), .int .u64 (most : Int)] w fun en w' => en = .returned (Tup (outUint B a most) (fun c => .int .u64 (c : Int)) (.int .u64 0)) ∧ w' = w := by
  obtain ⟨p, c, hv⟩ := h.shape
  subst hv
  have hcs := outUint_cases hB ha most
  have HG := Lib.hid (calls_flip (get_any (.slice p B.length c) B (a : Int) w h hB))
  clear h hB
  go_enter Try.func67, Try.ntmps67
  go_wp2_with fail
  refine HG.out.mono ?_
  rintro en w1 ⟨rfl, rfl⟩
  rcases hcs with ⟨e, he, hr, ho⟩ | ⟨x, to, hr, hto, htl, hx, ho⟩
  · rw [hr]
    have HO := Lib.hid ho
    have heb : ((e : Int) == 0) = false := by rw [beq_eq_false_iff_ne]; omega
    clear hr ho HG
    go_wp2_with fail
    go_ret3
    exact ⟨by rw [HO.out]; rfl, rfl⟩
  · rw [hr]
    have HO := Lib.hid ho
    clear hr ho HG
    by_cases hlt : most < x
    · have hlt' : (most : Int) < (x : Int) := by omega
      rw [if_pos hlt] at HO
      go_wp2_with fail
      go_ret3
      exact ⟨by rw [HO.out]; rfl, rfl⟩
    · have hlt' : ¬ (most : Int) < (x : Int) := by omega
      rw [if_neg hlt] at HO
      go_wp2_with fail
      go_ret3
      exact ⟨by rw [HO.out]; rfl, rfl⟩
end Go.Proofs.Ytmnagmbokajfpaa

end

section
/- Layer 4: read of a number. -/
set_option linter.unusedVariables false
set_option maxRecDepth 20000
namespace Go.Proofs.Ytmnagmbokajfpaa
open Go Go.RowKit

theorem lit_uint (v : Value) (B : List Nat) (a most : Nat) (x : Nat) (w : World) (h : Rd w 1 v B.length (u8s B)) (hB : ∀ c ∈ B, c < 256) (ha : a ≤ B.length) (hx : w.cell? ⟨x, 0, none⟩ = some (.int .u64 (most : Int))) :
    Calls Try.prog 66 #[v, .int .i64 (a : Int), .pointer (some ⟨x, 0, none⟩)] w fun en w' => en = .returned (Tup (outUint B a most) (fun c => .int .u64 (c : Int)) (.int .u64 0)) ∧ w' = w := by
  have HG := Lib.hid (get_uint v B a most w h hB ha)
  obtain ⟨p, c, hv⟩ := h.shape
  subst hv
  clear h hB
  generalize outUint B a most = o at *
  cases o with
  | bad e =>
    go_enter Try.func66, Try.ntmps66
    go_wp2_with fail
    refine HG.out.mono ?_
    rintro en w1 ⟨rfl, rfl⟩
    unfold Tup
    go_wp2_with fail
    go_ret3
    exact ⟨rfl, rfl⟩
  | ok y b =>
    go_enter Try.func66, Try.ntmps66
    go_wp2_with fail
    refine HG.out.mono ?_
    rintro en w1 ⟨rfl, rfl⟩
    unfold Tup
    go_wp2_with fail
    go_ret3
    exact ⟨rfl, rfl⟩

set_option maxHeartbeats 2000000 in
/-- 'read' of a number. -/
theorem read_uint (x : Nat) (o : Out Nat) (ho : ∀ e, o = .bad e → e ≠ 0) (q : Nat) (v : Value) (B : List Nat) (a : Nat) (w : World) (h : RRd w q v B a 0)
    (hget : ∀ n, Calls Try.prog 66 #[v, .int .i64 (a : Int), .pointer (some ⟨x, 0, none⟩)] (w.drewN n) fun en w' => en = .returned (Tup o (fun c => .int .u64 (c : Int)) (.int .u64 0)) ∧ w' = w.drewN n) :
    Calls Try.prog 65 #[.pointer (some ⟨q, 0, none⟩), .func (.func 66) #[] #[.pointer (some ⟨x, 0, none⟩)]] w fun en w' => Mods (fun k => k = q) w w' ∧ Got o (fun c => .int .u64 (c : Int)) (.int .u64 0) (fun b e => RRd w' q v B b e) a en := by
  have HE := Lib.hid (rd_err q v B a 0 w h)
  have H := Lib.hid h
  have HG := Lib.hid hget
  obtain ⟨c0, c1, c2, f1, f2⟩ := h.cells
  obtain ⟨p, c, hv⟩ := h.rd.shape
  subst hv
  clear h hget
  cases o with
  | bad e =>
    have he : e ≠ 0 := ho e rfl
    have heb : ((e : Int) == 0) = false := by rw [beq_eq_false_iff_ne]; omega
    unfold Tup at HG
    clear ho
    go_enter Try.func65, Try.ntmps65
    go_wp2_with fail
    refine HE.out.mono ?_
    rintro en w1 ⟨rfl, rfl⟩
    clear HE
    go_wp2_with fail
    go_quiet ((go_at_call 66; exact Calls.quiet_of_same (HG.out _)))
    have H1 := Lib.hid (H.out.drewN nq)
    have HM1 : Hid (Mods (fun k => k = q) w1 (w1.drewN nq)) := Mods.drewN _ _ _
    generalize w1.drewN nq = w2 at *
    clear HG H c0 c1 c2 f1 f2
    go_wp2_with fail
    refine (rd_fail q _ B a 0 (e : Int) _ H1.out).mono ?_
    rintro en w3 ⟨rfl, hR, hm⟩
    rw [if_pos rfl] at hR
    have HM := Lib.hid (HM1.out.trans hm (fun _ _ e => e))
    have HR := Lib.hid hR
    clear hR hm
    go_wp2_with fail
    go_ret
    exact ⟨HM.out, rfl, HR.out⟩
  | ok y b =>
    unfold Tup at HG
    clear ho
    go_enter Try.func65, Try.ntmps65
    go_wp2_with fail
    refine HE.out.mono ?_
    rintro en w1 ⟨rfl, rfl⟩
    clear HE
    go_wp2_with fail
    go_quiet ((go_at_call 66; exact Calls.quiet_of_same (HG.out _)))
    have H1 := Lib.hid (H.out.drewN nq)
    have HM1 : Hid (Mods (fun k => k = q) w1 (w1.drewN nq)) := Mods.drewN _ _ _
    obtain ⟨m0, m1, m2, g1, g2⟩ := H1.out.cells
    generalize w1.drewN nq = w2 at *
    clear HG H c0 c1 c2 f1 f2
    have HS := Lib.hid (H1.out.setAt b)
    have HSM : Hid (Mods (fun k => k = q) w1 (w2.setCell ⟨q, 1, none⟩ (.int .i64 (b : Int)))) := HM1.out.trans (mods_set _ q 1 _) (fun _ _ e => e)
    go_wp2_with fail
    go_ret
    exact ⟨HSM.out, rfl, HS.out⟩

theorem read_uint_err (g : Value) (q : Nat) (v : Value) (B : List Nat) (a : Nat) (e : Int) (he : e ≠ 0) (w : World) (h : RRd w q v B a e) :
    Calls Try.prog 65 #[.pointer (some ⟨q, 0, none⟩), g] w fun en w' => en = .returned (.int .u64 0) ∧ w' = w := by
  have HE := Lib.hid (rd_err q v B a e w h)
  have heb : (e == 0) = false := by rw [beq_eq_false_iff_ne]; exact he
  clear h
  go_enter Try.func65, Try.ntmps65
  go_wp2_with fail
  refine HE.out.mono ?_
  rintro en w1 ⟨rfl, rfl⟩
  go_wp2_with fail
  go_ret
  exact ⟨rfl, rfl⟩

theorem read_uint_nil (g : Value) (w : World) :
    Calls Try.prog 65 #[.pointer none, g] w fun en w' => en = .returned (.int .u64 0) ∧ w' = w := by
  have HE := Lib.hid (nil_err w)
  go_enter Try.func65, Try.ntmps65
  go_wp2_with fail
  refine HE.out.mono ?_
  rintro en w1 ⟨rfl, rfl⟩
  go_wp2_with fail
  go_ret
  exact ⟨rfl, rfl⟩
end Go.Proofs.Ytmnagmbokajfpaa

end

section
/- Layer 4: what a reader gives: no error is 0. No program in sight. -/
set_option linter.unusedVariables false
namespace Go.Proofs.Ytmnagmbokajfpaa
open Go Go.RowKit


theorem outByte_ne {B : List Nat} {a e : Nat} (h : outByte B a = .bad e) : e ≠ 0 := by
  rw [outByte] at h
  split at h
  · cases h
  · cases h; decide

theorem outUint_ne {B : List Nat} {a most e : Nat} (h : outUint B a most = .bad e) : e ≠ 0 := by
  rw [outUint] at h
  split at h
  · split at h
    · cases h; decide
    · cases h
  · cases h; omega

theorem outTake_ne {B : List Nat} {a : Nat} {n : Int} {e : Nat} (h : outTake B a n = .bad e) : e ≠ 0 := by
  rw [outTake] at h
  split at h
  · cases h; decide
  · split at h
    · cases h; decide
    · cases h

theorem outString_ne {B : List Nat} {a : Nat} {n : Int} {e : Nat} (h : outString B a n = .bad e) : e ≠ 0 := by
  rw [outString] at h
  split at h
  · split at h
    · cases h; decide
    · split at h
      · cases h; decide
      · cases h
  · cases h; omega

theorem outSection_ne {B : List Nat} {a id e : Nat} (h : outSection B a id = .bad e) : e ≠ 0 := by
  rw [outSection] at h
  split at h
  · cases h; decide
  · split at h
    · cases h; decide
    · split at h
      · split at h
        · cases h; decide
        · split at h
          · cases h
          · cases h; decide
      · cases h; omega
end Go.Proofs.Ytmnagmbokajfpaa

end

section
/- Layer 4: Uint. -/
set_option linter.unusedVariables false
set_option maxRecDepth 20000
namespace Go.Proofs.Ytmnagmbokajfpaa
open Go Go.RowKit

set_option maxHeartbeats 1000000 in
theorem rd_uint (q : Nat) (v : Value) (B : List Nat) (a : Nat) (most : Nat) (w : World) (h : RRd w q v B a 0) (hB : ∀ c ∈ B, c < 256) (ha : a ≤ B.length) (hz : B.length ≤ 140737488355000) :
    Calls Try.prog 60 #[.pointer (some ⟨q, 0, none⟩), .int .u64 (most : Int)] w fun en w' => Mods (fun k => k = q) w w' ∧ Got (outUint B a most) (fun c => .int .u64 (c : Int)) (.int .u64 0) (fun b e => RRd w' q v B b e) a en := by
  have HB0 : Hid (Below w.heap.size w (w.alloc (.cells #[.int .u64 (most : Int)] 59))) := (Below.refl _ _).alloc (Nat.le_refl _) _
  have HR0 := Lib.hid (h.below HB0.out)
  have hsz : (w.alloc (.cells #[.int .u64 (most : Int)] 59)).heap.size = w.heap.size + 1 := by simp
  have HC : Hid ((w.alloc (.cells #[.int .u64 (most : Int)] 59)).cell? ⟨w.heap.size, 0, none⟩ = some (.int .u64 (most : Int))) := (Blk.new w _ _).cell 0
  have HG := Lib.hid (read_uint w.heap.size (outUint B a most) (fun _ => outUint_ne) q v B a _ HR0.out (fun n => lit_uint v B a most w.heap.size _ (HR0.out.drewN n).rd hB ha HC.out))
  have HM0 : Hid (Mods (fun k => k = q) w (w.alloc (.cells #[.int .u64 (most : Int)] 59))) := Mods.of_below HB0.out _
  have HS0 := Lib.hid hsz
  clear h hB HC hsz
  cases ho : outUint B a most with
  | bad e =>
    rw [ho] at HG
    clear ho
    go_enter Try.func60, Try.ntmps60
    go_wp2_with fail
    refine HG.out.mono ?_
    rintro en w1 ⟨hM, rfl, hR⟩
    have HM := Lib.hid (HM0.out.trans hM (fun _ _ e => e))
    have HR := Lib.hid hR
    clear hM hR HG
    go_wp2_with fail
    go_ret
    exact ⟨HM.out, rfl, HR.out⟩
  | ok y b =>
    rw [ho] at HG
    clear ho
    go_enter Try.func60, Try.ntmps60
    go_wp2_with fail
    refine HG.out.mono ?_
    rintro en w1 ⟨hM, rfl, hR⟩
    have HM := Lib.hid (HM0.out.trans hM (fun _ _ e => e))
    have HR := Lib.hid hR
    clear hM hR HG
    go_wp2_with fail
    go_ret
    exact ⟨HM.out, rfl, HR.out⟩

theorem rd_uint_err (q : Nat) (v : Value) (B : List Nat) (a : Nat) (most : Nat) (e : Int) (he : e ≠ 0) (w : World) (h : RRd w q v B a e) :
    Calls Try.prog 60 #[.pointer (some ⟨q, 0, none⟩), .int .u64 (most : Int)] w fun en w' => en = .returned (.int .u64 0) ∧ Below w.heap.size w w' := by
  have HB0 : Hid (Below w.heap.size w (w.alloc (.cells #[.int .u64 (most : Int)] 59))) := (Below.refl _ _).alloc (Nat.le_refl _) _
  have HG := Lib.hid (read_uint_err (.func (.func 66) #[] #[.pointer (some ⟨w.heap.size, 0, none⟩)]) q v B a e he _ (h.below HB0.out))
  clear h
  go_enter Try.func60, Try.ntmps60
  go_wp2_with fail
  refine HG.out.mono ?_
  rintro en w1 ⟨rfl, rfl⟩
  go_wp2_with fail
  go_ret
  exact ⟨rfl, HB0.out⟩

theorem nil_uint (most : Nat) (w : World) : Calls Try.prog 60 #[.pointer none, .int .u64 (most : Int)] w fun en w' => en = .returned (.int .u64 0) ∧ Below w.heap.size w w' := by
  have HB0 : Hid (Below w.heap.size w (w.alloc (.cells #[.int .u64 (most : Int)] 59))) := (Below.refl _ _).alloc (Nat.le_refl _) _
  have HG := Lib.hid (read_uint_nil (.func (.func 66) #[] #[.pointer (some ⟨w.heap.size, 0, none⟩)]) (w.alloc (.cells #[.int .u64 (most : Int)] 59)))
  go_enter Try.func60, Try.ntmps60
  go_wp2_with fail
  refine HG.out.mono ?_
  rintro en w1 ⟨rfl, rfl⟩
  go_wp2_with fail
  go_ret
  exact ⟨rfl, HB0.out⟩
end Go.Proofs.Ytmnagmbokajfpaa

end

section
/- Layer 4: where a read ends. No program in sight. -/
set_option linter.unusedVariables false
namespace Go.Proofs.Ytmnagmbokajfpaa
open Go Go.RowKit

/-- Where a read ends. -/
def Ends {α : Type} (o : Out α) (n : Nat) : Prop := ∀ x b, o = .ok x b → b ≤ n

theorem ends_byte (B : List Nat) (a : Nat) : Ends (outByte B a) B.length := fun x b h => by
  rw [outByte] at h
  split at h
  · next hc =>
    simp only [Out.ok.injEq] at h
    have := (List.getElem?_eq_some_iff.1 hc).1
    omega
  · cases h

theorem ends_uint {B : List Nat} (hB : ∀ c ∈ B, c < 256) {a : Nat} (ha : a ≤ B.length) (most : Nat) : Ends (outUint B a most) B.length := fun x b h => by
  rcases outUint_cases hB ha most with ⟨e, _, _, ho⟩ | ⟨y, to, _, _, hto, _, ho⟩
  · rw [ho] at h; cases h
  · rw [ho] at h
    split at h
    · cases h
    · simp only [Out.ok.injEq] at h; omega

theorem ends_take (B : List Nat) {a : Nat} (ha : a ≤ B.length) (n : Int) : Ends (outTake B a n) B.length := fun x b h => by
  rw [outTake] at h
  split at h
  · cases h
  · split at h
    · cases h
    · simp only [Out.ok.injEq] at h; omega

theorem ends_string {B : List Nat} (hB : ∀ c ∈ B, c < 256) {a : Nat} (ha : a ≤ B.length) (n : Int) : Ends (outString B a n) B.length := fun x b h => by
  rcases outString_cases hB ha n with ⟨e, _, _, ho⟩ | ⟨y, to, _, _, hto, _, ho⟩
  · rw [ho] at h; cases h
  · rw [ho] at h
    split at h
    · cases h
    · split at h
      · cases h
      · simp only [Out.ok.injEq] at h; omega

theorem ends_section {B : List Nat} (hB : ∀ c ∈ B, c < 256) (a id : Nat) : Ends (outSection B a id) B.length := fun x b h => by
  by_cases hla : B.length ≤ a
  · rw [outSection_none hla] at h; cases h
  · have hget : B[a]? = some B[a] := List.getElem?_eq_getElem (by omega)
    by_cases hne : B[a] = id
    · rw [hne] at hget
      rcases outSection_cases hB hget with ⟨e, _, _, ho⟩ | ⟨y, to, _, _, _, _, ho⟩
      · rw [ho] at h; cases h
      · rw [ho] at h
        split at h
        · cases h
        · split at h
          · simp only [Out.ok.injEq] at h; omega
          · cases h
    · rw [outSection_other hget hne] at h; cases h

theorem below_drewN (w : World) (n : Nat) : Below w.heap.size w (w.drewN n) := ⟨rfl, rfl, rfl, Nat.le_refl _, fun _ _ => rfl⟩
end Go.Proofs.Ytmnagmbokajfpaa

end
