/- PbR, Iface15, ContLab, LabGt, Ref11D, Ref15F, StrGot, Ref10A, Long10, PoC, in one text. -/
import Derived.Test.YtpjfhakmffcolaaMrg16
import Derived.Test.YtpjfhakmffcolaaMrg5
import Derived.Test.YtpjfhakmffcolaaMrg11
import Derived.Test.YtpjfhakmffcolaaMrg12
import Derived.Test.YtpjfhakmffcolaaMrg13
import Derived.Test.YtpjfhakmffcolaaMrg2
import Derived.Test.YtpjfhakmffcolaaMrg4
import Derived.Test.YtpjfhakmffcolaaMrg7
import Derived.Test.YtpjfhakmffcolaaMrg1
import Derived.Test.YtpjfhakmffcolaaMrg6
import Derived.Test.YtpjfhakmffcolaaMrg14

section
/- Layer 15, the program's own: Decode. -/
set_option linter.unusedVariables false
set_option maxRecDepth 20000
namespace Go.Proofs.Ytpjfhakmffcolaa
open Go Go.RowKit

set_option maxHeartbeats 4000000 in
theorem po_entries (g q : Nat) (v : Value) (B : List Nat) (tv : Value) (t : List ByteArray) (N : Int) (a e : Nat) (w0 w : World) (hb0 : Below w0.heap.size w0 w) (hq0 : w0.heap.size ≤ q) (h : PoRd w g q v B tv t N a e) (hB : ∀ c ∈ B, c < 256) (hz : B.length ≤ 100000000) (hn : t.length ≤ 1000000) (hN : 0 ≤ N ∧ N ≤ 9223372036854775807) :
    Calls Try.prog 50 #[.pointer (some ⟨g, 0, none⟩)] w fun en w' => ∃ (M : List EntV) (r : Value) (a' e' : Nat), en = .returned r ∧ EnAt 68 w0 w' M r ∧ PoRd w' g q v B tv t N a' e' ∧ outE (pEnts t N B a) e = fin (M.map Prod.fst) a' e' := by
  have HB := Lib.hid hB; have HZ := Lib.hid hz; have HN := Lib.hid hN; have HTn := Lib.hid hn
  obtain ⟨w1, hw1⟩ : ∃ w1, w1 = w.alloc (.cells #[.pointer (some ⟨g, 0, none⟩)] 87) := ⟨_, rfl⟩
  obtain ⟨w2, hw2⟩ : ∃ w2, w2 = w1.alloc (.cells #[.bool true] 4) := ⟨_, rfl⟩
  obtain ⟨w3, hw3⟩ : ∃ w3, w3 = w2.alloc (.cells #[.string ⟨#[]⟩, .string ⟨#[]⟩] 34) := ⟨_, rfl⟩
  have HW : Hid (((w.alloc (.cells #[.pointer (some ⟨g, 0, none⟩)] 87)).alloc (.cells #[.bool true] 4)).alloc (.cells #[.string ⟨#[]⟩, .string ⟨#[]⟩] 34) = w3) := by show _ = _; rw [hw3, hw2, hw1]
  have hs1 : w1.heap.size = w.heap.size + 1 := by rw [hw1]; simp
  have hs2 : w2.heap.size = w.heap.size + 1 + 1 := by rw [hw2]; simp [hs1]
  have hb3 : Below w.heap.size w w3 := by
    rw [hw3, hw2, hw1]
    exact (((Below.refl _ w).alloc (Nat.le_refl _) _).alloc (by simp) _).alloc (by simp; omega) _
  have hk0 : Blk w3 w.heap.size [.pointer (some ⟨g, 0, none⟩)] := by rw [hw3, hw2, hw1]; exact ((Blk.new w _ _).alloc _).alloc _
  have hk1 : Blk w3 (w.heap.size + 1) [.bool true] := by rw [← hs1, hw3, hw2]; exact (Blk.new w1 _ _).alloc _
  have hk2 : Blk w3 (w.heap.size + 1 + 1) [.string ⟨#[]⟩, .string ⟨#[]⟩] := by rw [← hs2, hw3]; exact Blk.new w2 _ _
  have HSt : Hid (EntSt w3 w.heap.size (w.heap.size + 1) (w.heap.size + 1 + 1) g none) := ⟨hk0, hk1, hk2⟩
  have HR := Lib.hid (h.below hb3)
  have HLw := Lib.hid h.low
  have HGl := Lib.hid (gl_entries w.heap.size (w.heap.size + 1) (w.heap.size + 1 + 1) g q v B tv t N a e w0 w3 (hb0.trans (hb3.mono hb0.size)) ⟨hq0, hb0.size⟩ HR.out HB.out HZ.out HTn.out HN.out HSt.out HLw.out ⟨by omega, by omega⟩)
  clear h hB hz hN hn hw1 hw2 hw3 hs1 hs2 hb3 hk0 hk1 hk2 HSt HR hb0 hq0
  go_enter Try.func50, Try.ntmps50
  go_wp2_with fail
  rw [HW.out]
  clear HW
  refine HGl.out.mono ?_
  rintro en w4 ⟨_, M, r, a4, e4, rfl, hO, hR4, hf⟩
  have HO := Lib.hid hO; have HR4 := Lib.hid hR4; have HF := Lib.hid hf
  obtain ⟨p4, c4, hv4⟩ := hO.shape
  subst hv4
  clear hO hR4 hf HGl
  go_wp2_with fail
  go_ret
  first
    | exact ⟨M, _, a4, e4, rfl, HO.out, HR4.out, HF.out⟩
    | exact ⟨M, _, rfl, HO.out, a4, e4, HR4.out, HF.out⟩

set_option maxHeartbeats 8000000 in
theorem prg_decode15 (tv bv : Value) (t : List ByteArray) (n : Int) (B : List Nat) (w : World) (ht : Rd w 1 tv t.length (strs t)) (hn : t.length ≤ 1000000) (hN : -9223372036854775808 ≤ n ∧ n ≤ 9223372036854775807) (hl : Rd w 1 bv B.length (u8s B)) (hB : ∀ c ∈ B, c < 256) (hz : B.length ≤ 100000000) :
    Calls Try.prog 28 #[tv, .int .i64 n, bv] w (GotPo w (decPo t n B)) := by
  by_cases hneg : n < 0
  · have HX : Hid (decPo t n B = (2, [])) := by show _ = _; unfold decPo; rw [if_pos hneg]
    clear hN
    go_enter Try.func28, Try.ntmps28
    go_wp2_with fail
    go_ret2
    exact ⟨by rw [HX.out]; exact ⟨_, rfl, RdE.nil _⟩, Below.refl _ _⟩
  · have HN := Lib.hid (rd_new bv B w hl (by omega))
    have HT := Lib.hid ht; have HTn := Lib.hid hn; have HBl := Lib.hid hB; have HZ := Lib.hid hz
    have HNg : Hid (0 ≤ n ∧ n ≤ 9223372036854775807) := ⟨by omega, hN.2⟩
    have HNe := Lib.hid hneg
    obtain ⟨pb, cb, hv⟩ := hl.shape
    subst hv
    obtain ⟨pt, ct, hv⟩ := ht.shape
    subst hv
    have hbm : (B.length : Int) ≤ 100000000 := by omega
    clear ht hn hl hB hz hN
    go_enter Try.func28, Try.ntmps28
    go_wp2_with fail
    refine HN.out.mono ?_
    rintro en w1 ⟨q, vr, rfl, hR, hq, hvr, hb⟩
    have hb1 : Below w1.heap.size w1 (w1.alloc (.cells #[.pointer (some ⟨q, 0, none⟩), .int .i64 (B.length : Int), .slice pt t.length ct, .int .i64 n] 91)) := (Below.refl _ w1).alloc (Nat.le_refl _) _
    have HB2 : Hid (Below w.heap.size w (w1.alloc (.cells #[.pointer (some ⟨q, 0, none⟩), .int .i64 (B.length : Int), .slice pt t.length ct, .int .i64 n] 91))) := hb.trans (hb1.mono hb.size)
    have HQ := Lib.hid hq
    have HR2 : Hid (PoRd (w1.alloc (.cells #[.pointer (some ⟨q, 0, none⟩), .int .i64 (B.length : Int), .slice pt t.length ct, .int .i64 n] 91)) w1.heap.size q vr B (.slice pt t.length ct) t n 0 0) :=
      ⟨Blk.new _ _ _, hR.below hb1, HT.out.below HB2.out, Nat.zero_le _, fun e => by have := hR.blk.lt; omega, fun hne k hk e => by have := HT.out.lt (strs_ne15 hne) k hk; omega⟩
    have HS1 : Hid (w.heap.size ≤ w1.heap.size) := hb.size
    clear HN hR hq hvr hb hb1 hneg
    go_wp2_with fail
    generalize w1.alloc (.cells #[.pointer (some ⟨q, 0, none⟩), .int .i64 (B.length : Int), .slice pt t.length ct, .int .i64 n] 91) = w2 at *
    obtain ⟨g, hg⟩ : ∃ g, w1.heap.size = g := ⟨_, rfl⟩
    rw [hg] at HR2 HS1 ⊢
    clear hg
    refine (po_entries g q vr B (.slice pt t.length ct) t n 0 0 w w2 HB2.out HQ.out HR2.out HBl.out HZ.out HTn.out HNg.out).mono ?_
    rintro en w3 ⟨M, r, a, e, rfl, hD, hR3, hf⟩
    have HD := Lib.hid hD; have HR3 := Lib.hid hR3
    have HX := Lib.hid (decPo_fin (Int.not_lt.2 HNg.out.1) hf)
    have HE := Lib.hid (rd_end q vr B a (e : Int) w3 hR3.rr)
    obtain ⟨g0, g1, g2, g3⟩ := hR3.cells
    obtain ⟨pr, cr, hr⟩ := hD.shape
    subst hr
    clear HR2 hD hR3 hf
    go_wp2_with fail
    refine HE.out.mono ?_
    rintro en w4 ⟨rfl, k, rfl⟩
    have HD4 := Lib.hid (HD.out.below (below_drewN w3 k))
    clear HE g0 g1 g2 g3
    by_cases he : e = 0
    · subst he
      rw [if_pos rfl] at HX
      by_cases hlt : a < B.length
      · rw [if_pos hlt] at HX
        rw [if_pos ⟨rfl, hlt⟩]
        clear hlt
        go_wp2_with fail
        go_ret2
        exact ⟨by rw [HX.out]; exact ⟨_, rfl, RdE.nil _⟩, HD4.out.bel⟩
      · rw [if_neg hlt] at HX
        rw [if_neg (fun h => hlt h.2)]
        clear hlt
        go_wp2_with fail
        go_ret2
        exact ⟨by rw [HX.out]; exact ⟨_, rfl, HD4.out.rd⟩, HD4.out.bel⟩
    · rw [if_neg he] at HX
      have heb : ((e : Int) == 0) = false := by rw [beq_eq_false_iff_ne]; omega
      have hei : ¬ (e : Int) = 0 := by omega
      rw [if_neg (fun h => hei h.1)]
      clear he
      go_wp2_with fail
      go_ret2
      exact ⟨by rw [HX.out]; exact ⟨_, rfl, RdE.nil _⟩, HD4.out.bel⟩
end Go.Proofs.Ytpjfhakmffcolaa

end

section
/- Layer 15: the program's postings are as the walks ask. -/
set_option linter.unusedVariables false
namespace Go.Proofs.Ytpjfhakmffcolaa
open Go Go.RowKit

theorem names_nodup {s : List Lab} (h : AscB ltN s) : s.Nodup := by
  refine List.Pairwise.imp (fun {a b} hab e => ?_) h
  subst e
  have : ltN a a = false := by unfold ltN; exact ltS_ok.irr _
  rw [this] at hab
  cases hab
theorem flat_sum {l : List Ent} {k : Nat} (h : ∀ e ∈ l, e.2.length ≤ k) : (l.map Prod.snd).flatten.length ≤ l.length * k := by
  induction l with
  | nil => simp
  | cons e l ih =>
    rw [List.map_cons, List.flatten_cons, List.length_append, List.length_cons, Nat.add_mul, Nat.one_mul]
    have h1 := h e (by simp)
    have h2 := ih (fun x hx => h x (by simp [hx]))
    omega
theorem small_flat {n : Nat} {l : List Ent} (h : SmallI n l) : l.length ≤ 1000000 ∧ (l.map Prod.snd).flatten.length ≤ 1000000 := by
  have h1 := flat_sum (fun e he => (h.ok.ser e he).2)
  have h2 := h.ok.len
  have h3 : l.length * 300 ≤ 300 * 300 := Nat.mul_le_mul_right _ h2
  exact ⟨by omega, by omega⟩
theorem postingsMet : PoIf 0 (fun _ => True) where
  keeps := fun _ _ _ => trivial
  low := fun _ => Nat.zero_le _
  build := fun mv m w _ hm hs => prg_build15 mv m w hm (by have := hs.len; omega) (by have := hs.flat; omega) (fun s hsm => names_nodup (hs.nrm s hsm)) (fun x hx => by
    obtain ⟨s, hsm, hxs⟩ := List.mem_flatten.1 hx
    have h := hs.siz s hsm x hxs
    exact ⟨by unfold maxLen; omega, by unfold maxLen; omega⟩)
  find := fun lv l n x w _ hl hs _ => (poFind_any lv l n x w hl hs.idx (small_flat hs).1 (small_flat hs).2).mono (by
    rintro e w' ⟨v, rfl, hO⟩
    exact ⟨v, rfl, hO.rd, hO.bel⟩)
  named := fun lv l n x w _ hl hs _ => (poNamed_any lv l n x w hl hs.idx (small_flat hs).1 (small_flat hs).2).mono (by
    rintro e w' ⟨v, rfl, hO⟩
    exact ⟨v, rfl, hO.rd, hO.bel⟩)
  encode := fun tv lv t l n w _ ht htn hta _ hl hi hn hln hls hE => (prg_encode15o tv lv t l w ht htn hta hl hln (fun e he => ⟨(hi.2 e he).1, hls e he, fun x hx => ⟨((hi.2 e he).2.1 x hx).1, by have := ((hi.2 e he).2.1 x hx).2; omega⟩⟩) hE).mono (fun e w' h => h.got)
  decode := fun tv bv t n B w _ ht htn _ _ hN hl hB hz => prg_decode15 tv bv t n B w ht htn hN hl hB hz
end Go.Proofs.Ytpjfhakmffcolaa

end

section
/- Layer 15: slices.Index and slices.Contains of labels. -/
set_option linter.unusedVariables false
set_option maxRecDepth 20000
namespace Go.Proofs.Ytpjfhakmffcolaa
open Go Go.RowKit

def posL (l : List Lab) (x : Lab) : Int := match l.findIdx? (fun y => decide (y = x)) with
  | some j => (j : Int)
  | none => -1
theorem posL_at {l : List Lab} {x : Lab} {j : Nat} (h : x ∉ l.take j) (hx : l[j]? = some x) : posL l x = (j : Int) := by
  have hf : l.findIdx? (fun y => decide (y = x)) = some j := by
    rw [List.findIdx?_eq_some_iff_getElem]
    obtain ⟨hl, e⟩ := List.getElem?_eq_some_iff.1 hx
    refine ⟨hl, by simpa using e, fun i hi => ?_⟩
    simp only [decide_eq_true_eq]
    intro h2
    exact h (h2 ▸ List.mem_of_getElem? (i := i) (by rw [List.getElem?_take, if_pos hi, List.getElem?_eq_getElem (by omega)]))
  rw [posL, hf]
theorem posL_none {l : List Lab} {x : Lab} (h : x ∉ l) : posL l x = -1 := by
  have hf : l.findIdx? (fun y => decide (y = x)) = none := by
    rw [List.findIdx?_eq_none_iff]
    intro y hy
    simp only [decide_eq_false_iff_not]
    intro e
    exact h (e ▸ hy)
  rw [posL, hf]

set_option maxHeartbeats 4000000 in
theorem index_lab (lv : Value) (l : List Lab) (x : Lab) (w : World) (hl : Rd w 2 lv l.length (labCells l)) (hn : l.length ≤ 1000000) :
    Calls Try.prog 38 #[lv, .agg #[.string x.1, .string x.2]] w fun e w' => e = .returned (.int .i64 (posL l x)) ∧ Below w.heap.size w w' := by
  obtain ⟨x1, x2⟩ := x
  have HL := Lib.hid hl
  obtain ⟨p, c, hv⟩ := hl.shape
  subst hv
  have hmx : (l.length : Int) ≤ 1000000 := by omega
  obtain ⟨w1, hw1⟩ : ∃ w1, w1 = w.alloc (.cells #[.string x1, .string x2] 34) := ⟨_, rfl⟩
  have HW : Hid (w.alloc (.cells #[.string x1, .string x2] 34) = w1) := hw1.symm
  have HB1 : Hid (Below w.heap.size w w1) := by show Below _ _ _; rw [hw1]; exact (Below.refl _ w).alloc (Nat.le_refl _) _
  have HX1 : Hid (Blk w1 w.heap.size [.string x1, .string x2]) := by show Blk _ _ _; rw [hw1]; exact Blk.new w _ _
  obtain ⟨bx, hbx⟩ : ∃ bx, w.heap.size = bx := ⟨_, rfl⟩
  have HBx := Lib.hid hbx
  rw [hbx] at HX1
  clear hl hn hw1 hbx
  go_enter Try.func38, Try.ntmps38
  go_wp2_with fail
  rw [HW.out, HBx.out]
  clear HW
  go_loopw [8] (fun iv wr => ∃ (i : Nat), i ≤ l.length ∧ iv = .int .i64 (i : Int) ∧ Hid ((x1, x2) ∉ l.take i) ∧ Hid (Below w1.heap.size w1 wr)) (fun iv _ => l.length - (intOf iv).toNat)
  case atStart => exact ⟨0, Nat.zero_le _, rfl, (by show _ ∉ _; simp), Below.refl _ _⟩
  case round =>
    obtain ⟨i, hi, rfl, HF, HB⟩ := hrel
    have him : (i : Int) ≤ 1000000 := by omega
    have HBw : Hid (Below w.heap.size w wr) := HB1.out.trans (HB.out.mono HB1.out.size)
    by_cases hlt : i < l.length
    · have hlt' : (i : Int) < (l.length : Int) := by omega
      obtain ⟨⟨y1, y2⟩, hy⟩ : ∃ y, l[i]? = some y := ⟨_, List.getElem?_eq_getElem hlt⟩
      obtain ⟨b, off, e, hcell⟩ := rdLab_at HL.out hy
      subst e
      have HXw : Hid (Blk wr bx [.string x1, .string x2]) := HX1.out.of_same (HB.out.block _ HX1.out.lt)
      obtain ⟨c0, c1⟩ := hcell wr HBw.out
      simp only at c0 c1
      have d0 : wr.cell? ⟨bx, 0, none⟩ = some (.string x1) := by rw [HXw.out.cell]; rfl
      have d1 : wr.cell? ⟨bx, 1, none⟩ = some (.string x2) := by rw [HXw.out.cell]; rfl
      have HY := Lib.hid hy
      have HF2 : Hid (¬ (x1 = y1 ∧ x2 = y2) → (x1, x2) ∉ l.take (i + 1)) := fun h hm => by
        rw [List.take_add_one, hy] at hm
        rcases List.mem_append.1 hm with f | f
        · exact HF.out f
        · simp at f; exact h f
      clear hy hcell HXw
      by_cases e1 : x1 = y1
      · by_cases e2 : x2 = y2
        · subst e1
          subst e2
          have HP : Hid (posL l (x1, x2) = (i : Int)) := posL_at HF.out HY.out
          go_wp2_with fail
          go_quiet (fail)
          have HBz : Hid (Below w.heap.size w (wr.drewN nq)) := HBw.out.trans ((Mods.drewN (fun _ => False) wr nq).below HBw.out.size (fun _ _ e => e))
          clear c0 c1 d0 d1
          generalize wr.drewN nq = w6 at *
          go_wp2_with fail
          go_ret
          exact ⟨by rw [HP.out]; rfl, HBz.out⟩
        · have HN := Lib.hid (HF2.out (fun h => e2 h.2))
          have hvb : (x2.toList == y2.toList) = false := by rw [eqS]; simpa using e2
          subst e1
          clear e2 HF2
          go_wp2_with fail
          go_quiet (fail)
          have HBz : Hid (Below w1.heap.size w1 (wr.drewN nq)) := HB.out.trans ((Mods.drewN (fun _ => False) wr nq).below HB.out.size (fun _ _ e => e))
          clear c0 c1 d0 d1
          generalize wr.drewN nq = w6 at *
          go_wp2_with fail
          go_round
          case rel => exact ⟨i + 1, by omega, by go_num, HN.out, HBz.out⟩
          case measure => simp [intOf]; omega
      · have HN := Lib.hid (HF2.out (fun h => e1 h.1))
        have hvb : (x1.toList == y1.toList) = false := by rw [eqS]; simpa using e1
        clear e1 HF2
        go_wp2_with fail
        go_quiet (fail)
        have HBz : Hid (Below w1.heap.size w1 (wr.drewN nq)) := HB.out.trans ((Mods.drewN (fun _ => False) wr nq).below HB.out.size (fun _ _ e => e))
        clear c0 c1 d0 d1
        generalize wr.drewN nq = w6 at *
        go_wp2_with fail
        go_round
        case rel => exact ⟨i + 1, by omega, by go_num, HN.out, HBz.out⟩
        case measure => simp [intOf]; omega
    · have hlt' : ¬ (i : Int) < (l.length : Int) := by omega
      have HP : Hid (posL l (x1, x2) = -1) := posL_none (by have h := HF.out; rwa [List.take_of_length_le (by omega)] at h)
      go_wp2_with fail
      go_ret
      exact ⟨by rw [HP.out]; rfl, HBw.out⟩

set_option maxHeartbeats 2000000 in
theorem contains_lab (lv : Value) (l : List Lab) (x : Lab) (w : World) (hl : Rd w 2 lv l.length (labCells l)) (hn : l.length ≤ 1000000) :
    Calls Try.prog 17 #[lv, .agg #[.string x.1, .string x.2]] w fun e w' => e = .returned (.bool (decide (x ∈ l))) ∧ Below w.heap.size w w' := by
  obtain ⟨x1, x2⟩ := x
  obtain ⟨w1, hw1⟩ : ∃ w1, w1 = w.alloc (.cells #[.string x1, .string x2] 34) := ⟨_, rfl⟩
  have HW : Hid (w.alloc (.cells #[.string x1, .string x2] 34) = w1) := hw1.symm
  have HB1 : Hid (Below w.heap.size w w1) := by show Below _ _ _; rw [hw1]; exact (Below.refl _ w).alloc (Nat.le_refl _) _
  have HX1 : Hid (Blk w1 w.heap.size [.string x1, .string x2]) := by show Blk _ _ _; rw [hw1]; exact Blk.new w _ _
  have HI := Lib.hid (index_lab lv l (x1, x2) w1 (hl.below HB1.out) hn)
  obtain ⟨p, c, hv⟩ := hl.shape
  subst hv
  obtain ⟨bx, hbx⟩ : ∃ bx, w.heap.size = bx := ⟨_, rfl⟩
  have HBx := Lib.hid hbx
  rw [hbx] at HX1
  have d0 : w1.cell? ⟨bx, 0, none⟩ = some (.string x1) := by rw [HX1.out.cell]; rfl
  have d1 : w1.cell? ⟨bx, 1, none⟩ = some (.string x2) := by rw [HX1.out.cell]; rfl
  clear hl hn hw1 hbx
  go_enter Try.func17, Try.ntmps17
  go_wp2_with fail
  rw [HW.out, HBx.out]
  clear HW
  go_wp2_with fail
  refine HI.out.mono ?_
  rintro e w2 ⟨rfl, hB⟩
  have HB2 := Lib.hid (HB1.out.trans (hB.mono HB1.out.size))
  clear hB HI d0 d1
  by_cases hm : (x1, x2) ∈ l
  · have hp : ∃ j : Nat, posL l (x1, x2) = (j : Int) := by
      unfold posL
      cases hf : l.findIdx? (fun y => decide (y = (x1, x2))) with
      | some j => exact ⟨j, rfl⟩
      | none =>
        have := List.findIdx?_eq_none_iff.1 hf _ hm
        simp at this
    obtain ⟨j, hj⟩ := hp
    rw [hj]
    have hj0 : (0 : Int) ≤ (j : Int) := by omega
    have HD : Hid (decide ((x1, x2) ∈ l) = true) := decide_eq_true hm
    clear hj hm
    go_wp2_with fail
    go_ret
    exact ⟨by rw [HD.out]; simp, HB2.out⟩
  · rw [posL_none hm]
    have HD : Hid (decide ((x1, x2) ∈ l) = false) := decide_eq_false hm
    clear hm
    go_wp2_with fail
    go_ret
    exact ⟨by rw [HD.out]; simp, HB2.out⟩
end Go.Proofs.Ytpjfhakmffcolaa

end

section
/- Layer 11: the value of a label. No program in sight. -/
set_option linter.unusedVariables false
namespace Go.Proofs.Ytpjfhakmffcolaa
open Go Go.RowKit

def getV (o : Option ByteArray) : Value := .tuple #[.string (o.getD ⟨#[]⟩), .bool o.isSome]
theorem getL_at {l : List Lab} {i : Nat} {n : ByteArray} {x : Lab} (h : ∀ y ∈ l.take i, y.1 ≠ n) (hx : l[i]? = some x) (hn : x.1 = n) : getL l n = some x.2 := by
  have e : l = l.take i ++ x :: l.drop (i + 1) := by
    have hlt := (List.getElem?_eq_some_iff.1 hx).1
    rw [← (List.getElem?_eq_some_iff.1 hx).2, List.getElem_cons_drop, List.take_append_drop]
  rw [getL, e, List.find?_append, List.find?_cons_of_pos (by simpa using hn)]
  rw [List.find?_eq_none.2 (fun y hy => by simpa using h y hy)]
  rfl
theorem getL_none {l : List Lab} {n : ByteArray} (h : ∀ y ∈ l, y.1 ≠ n) : getL l n = none := by
  rw [getL, List.find?_eq_none.2 (fun y hy => by simpa using h y hy)]; rfl

end Go.Proofs.Ytpjfhakmffcolaa

end

section
/- Layer 11: the reference's Get and Strings. -/
set_option linter.unusedVariables false
set_option maxRecDepth 20000
namespace Go.Proofs.Ytpjfhakmffcolaa
open Go Go.RowKit

set_option maxHeartbeats 2000000 in
theorem ref_get11 (lv : Value) (l : List Lab) (n : ByteArray) (w : World) (hl : Rd w 2 lv l.length (labCells l)) (hn : l.length ≤ 1000000) :
    Calls Try.prog 18 #[lv, .string n] w fun e w' => e = .returned (getV (getL l n)) ∧ Below w.heap.size w w' := by
  have HL := Lib.hid hl
  obtain ⟨pl, cl, hv⟩ := hl.shape
  subst hv
  have hmx : (l.length : Int) ≤ 1000000 := by omega
  clear hl hn
  go_enter Try.func18, Try.ntmps18
  go_wp2_with fail
  go_loopw [6] (fun iv wr => ∃ (i : Nat), i ≤ l.length ∧ iv = .int .i64 (i : Int) ∧ Hid (∀ y ∈ l.take i, y.1 ≠ n) ∧ Hid (Below w.heap.size w wr)) (fun iv _ => l.length - (intOf iv).toNat)
  case atStart => exact ⟨0, Nat.zero_le _, rfl, (by intro x hx; simp at hx), Below.refl _ _⟩
  case round =>
    obtain ⟨i, hi, rfl, HF, HB⟩ := hrel
    have him : (i : Int) ≤ 1000000 := by omega
    by_cases hlt : i < l.length
    · have hlt' : (i : Int) < (l.length : Int) := by omega
      obtain ⟨⟨yn, yv⟩, hx⟩ : ∃ x, l[i]? = some x := ⟨_, List.getElem?_eq_getElem hlt⟩
      obtain ⟨b, off, e⟩ := rd2_at HL.out hx
      subst e
      obtain ⟨c0, c1⟩ := rd2_cell (HL.out.below HB.out) hx
      have HX := Lib.hid hx
      clear hx
      by_cases hy : yn = n
      · subst hy
        have hse : (yn.toList == yn.toList) = true := by simp
        have HG : Hid (getL l yn = some yv) := getL_at HF.out HX.out rfl
        go_wp2_with fail
        go_ret2
        exact ⟨by rw [HG.out]; rfl, HB.out⟩
      · have hse : (yn.toList == n.toList) = false := by rw [eqS]; simpa using hy
        have HF2 : Hid (∀ y ∈ l.take (i + 1), y.1 ≠ n) := by
          intro y hy2
          rw [List.take_add_one, HX.out] at hy2
          rcases List.mem_append.1 hy2 with e | e
          · exact HF.out y e
          · simp at e; subst e; exact hy
        clear hy
        go_wp2_with fail
        go_round
        case rel => exact ⟨i + 1, by omega, by go_num, HF2.out, HB.out⟩
        case measure => simp [intOf]; omega
    · have hlt' : ¬ (i : Int) < (l.length : Int) := by omega
      have HG : Hid (getL l n = none) := getL_none (by have h := HF.out; rwa [List.take_of_length_le (by omega)] at h)
      go_wp2_with fail
      go_ret2
      exact ⟨by rw [HG.out]; rfl, HB.out⟩

end Go.Proofs.Ytpjfhakmffcolaa

end

section
/- Layer 15: the reference's Encode. -/
set_option linter.unusedVariables false
set_option maxRecDepth 20000
namespace Go.Proofs.Ytpjfhakmffcolaa
open Go Go.RowKit

set_option maxHeartbeats 16000000 in
theorem ref_encode15 (tv lv : Value) (t : List ByteArray) (l : List Ent) (w : World) (ht : Rd w 1 tv t.length (strs t)) (htn : t.length ≤ 1000000) (hl : RdE w lv l) (hln : l.length ≤ 1000000) (hs : ∀ e ∈ l, AscB ltI e.2 ∧ e.2.length ≤ 1000000 ∧ ∀ x ∈ e.2, 0 ≤ x ∧ x < 1000000000) (hE : (entsBytes t l).length ≤ 1000000000) :
    Calls Try.prog 26 #[tv, lv] w (GotBo w (encPoR t l)) := by
  have HT := Lib.hid ht; have HTn := Lib.hid htn; have HL := Lib.hid hl; have HLn := Lib.hid hln; have HS := Lib.hid hs; have HEn := Lib.hid hE
  obtain ⟨pt, ct, hv⟩ := ht.shape
  subst hv
  obtain ⟨pl, cl, hv⟩ := hl.shape
  subst hv
  have hlni : (l.length : Int) ≤ 1000000 := by omega
  have HE0 := Lib.hid (fun W => ref_encode l.length (by omega) W)
  have hw0 : IntKind.u64.wrap (l.length : Int) = (l.length : Int) := by rw [IntKind.wrap_u64]; omega
  clear ht htn hl hln hs hE
  go_enter Try.func26, Try.ntmps26
  go_wp2_with fail
  refine (HE0.out w).mono ?_
  rintro en w1 ⟨r1, rfl, hM⟩
  have HO1 : Hid (OwnB w w1 (encE t l 0) r1) := by
    show OwnB w w1 (groups l.length ++ (l.take 0).flatMap (entBytes t)) r1
    rw [List.take_zero, List.flatMap_nil, List.append_nil]
    exact ⟨hM.1, hM.2⟩
  obtain ⟨p1, c1, hv1⟩ := HO1.out.shape
  subst hv1
  clear hM HE0 hw0
  go_wp2_with fail
  go_loopw [6, 7] (fun vv iv wr => ∃ (i : Nat), i ≤ l.length ∧ iv = .int .i64 (i : Int) ∧ Hid (OwnB w wr (encE t l i) vv) ∧ Hid (∀ e ∈ l.take i, labIn t e.1)) (fun _ iv _ => l.length - (intOf iv).toNat)
  case atStart => exact ⟨0, Nat.zero_le _, rfl, HO1.out, (by intro e he; simp at he)⟩
  case round =>
    obtain ⟨i, hi, rfl, HO, HIn⟩ := hrel
    have him : (i : Int) ≤ 1000000 := by omega
    obtain ⟨pv, cv, hvv⟩ := HO.out.shape
    subst hvv
    by_cases hlt : i < l.length
    · have hlt' : (i : Int) < (l.length : Int) := by omega
      obtain ⟨⟨⟨n1, v1⟩, s⟩, hr⟩ : ∃ r, l[i]? = some r := ⟨_, List.getElem?_eq_getElem hlt⟩
      obtain ⟨blk, off, q1, k1, e, hat⟩ := HL.out.always hr
      subst e
      have HAt := Lib.hid hat
      simp only at HAt
      have hmem := List.mem_of_getElem? hr
      have HSe : Hid (AscB ltI s ∧ s.length ≤ 1000000 ∧ ∀ x ∈ s, 0 ≤ x ∧ x < 1000000000) := HS.out _ hmem
      have hsm : (s.length : Int) ≤ 1000000 := by have := HSe.out.2.1; omega
      have HRm : Hid ((encE t l i).length + (groups (idxT t n1)).length + (groups (idxT t v1)).length + (groups s.length).length + (serTo s s.length).length ≤ 1000000000) := Nat.le_trans (encE_room hr) HEn.out
      have HNx : Hid (encE t l (i + 1) = encE t l i ++ groups (idxT t n1) ++ groups (idxT t v1) ++ groups s.length ++ serTo s s.length) := encE_step hr
      have HBad : Hid (¬ labIn t (n1, v1) → encPoR t l = (14, [])) := fun h => encPo_bad hmem h
      have HIn2 : Hid (labIn t (n1, v1) → ∀ e ∈ l.take (i + 1), labIn t e.1) := fun h e he => by
        rw [List.take_add_one, hr] at he
        rcases List.mem_append.1 he with f | f
        · exact HIn.out e f
        · simp at f; subst f; exact h
      have HIx := Lib.hid (fun x W h => ref_index10 (.slice pt t.length ct) t x W h (by have := HTn.out; omega))
      have HTw : Hid (Rd wr 1 (.slice pt t.length ct) t.length (strs t)) := HT.out.below HO.out.bel
      obtain ⟨E0, hE0⟩ : ∃ E0, encE t l i = E0 := ⟨_, rfl⟩
      rw [hE0] at HO HRm HNx ⊢
      obtain ⟨⟨d0, d1, d2⟩, _⟩ := HAt.out wr HO.out.bel
      clear hr hat hmem hE0 HIn
      have HLnv : Hid (E0.length ≤ 1000000000) := by show _ ≤ _; have := HRm.out; omega
      go_wp2_with fail
      refine (HIx.out n1 wr HTw.out).mono ?_
      rintro en w5 ⟨rfl, rfl⟩
      go_wp2_with fail
      refine (HIx.out v1 w5 HTw.out).mono ?_
      rintro en w6 ⟨rfl, rfl⟩
      clear HIx HTw
      by_cases hn : n1 ∈ t
      · obtain ⟨jn, hjn, hjnt⟩ := findS_in hn
        have HJn : Hid (jn < 9223372036854775808) := by show _ < _; have := (List.getElem?_eq_some_iff.1 hjnt).1; have := HTn.out; omega
        have hin : idxT t n1 = jn := by rw [idxT, hjn]; rfl
        rw [hjn]
        rw [hin] at HNx HRm
        have hjn0 : ¬ (jn : Int) < 0 := by omega
        clear hjn hjnt hin
        by_cases hvm : v1 ∈ t
        · obtain ⟨jv, hjv, hjvt⟩ := findS_in hvm
          have HJv : Hid (jv < 9223372036854775808) := by show _ < _; have := (List.getElem?_eq_some_iff.1 hjvt).1; have := HTn.out; omega
          have hiv : idxT t v1 = jv := by rw [idxT, hjv]; rfl
          rw [hjv]
          rw [hiv] at HNx HRm
          have hjv0 : ¬ (jv : Int) < 0 := by omega
          have HLab : Hid (∀ e ∈ l.take (i + 1), labIn t e.1) := HIn2.out ⟨hn, hvm⟩
          clear hjv hjvt hiv hn hvm HBad HIn2
          have hwa : IntKind.u64.wrap (jn : Int) = (jn : Int) := by rw [IntKind.wrap_u64]; have := HJn.out; omega
          have HEa := Lib.hid (fun W => ref_encode jn (by have := HJn.out; omega) W)
          have HLba : Hid ((E0.length + (groups jn).length) * 1 ≤ 140737488355328 ∧ E0.length + (groups jn).length ≤ maxLen) := by show _ ∧ _; have := groups_ten (x := jn) (by have := HJn.out; omega); have := HLnv.out; unfold maxLen; omega
          go_wp2_with fail
          refine (HEa.out w6).mono ?_
          rintro en wxa ⟨rr, rfl, hM⟩
          have HO1a := Lib.hid (HO.out.below hM.2)
          have HD1a := Lib.hid (Rd.of_owns hM.1)
          have HOza := Lib.hid HO1a.out.base0
          obtain ⟨qa, da, hv1⟩ := (Rd.of_owns hM.1).shape
          subst hv1
          clear hM HEa HO hwa
          go_wp2_with (at_builtin; refine wpList_extend Try.elemU8 _ _ _ _ _ _ _ HOza.out HD1a.out (u8s_oneCell _) HLba.out rfl _ _ rfl rfl rfl ?_)
          intro v2 wa k1 m1 f1
          obtain ⟨L1, hL1⟩ : ∃ X, E0 ++ groups jn = X := ⟨_, rfl⟩
          have HOa : Hid (OwnB w wa L1 v2) := by
            show OwnB _ _ _ _
            rw [← hL1]
            exact HO1a.out.extended (e := groups jn) k1 m1 f1
          obtain ⟨pa, ca, hv2⟩ := HOa.out.shape
          subst hv2
          have HL1 := Lib.hid hL1
          clear k1 m1 f1 HOza HD1a HLba HO1a hL1
          have HLna : Hid (L1.length ≤ 1000000000) := by show _ ≤ _; rw [← HL1.out, List.length_append]; have := HRm.out; omega
          have hwb : IntKind.u64.wrap (jv : Int) = (jv : Int) := by rw [IntKind.wrap_u64]; have := HJv.out; omega
          have HEb := Lib.hid (fun W => ref_encode jv (by have := HJv.out; omega) W)
          have HLbb : Hid ((L1.length + (groups jv).length) * 1 ≤ 140737488355328 ∧ L1.length + (groups jv).length ≤ maxLen) := by show _ ∧ _; have := groups_ten (x := jv) (by have := HJv.out; omega); have := HLna.out; unfold maxLen; omega
          go_wp2_with fail
          refine (HEb.out wa).mono ?_
          rintro en wxb ⟨rr, rfl, hM⟩
          have HO1b := Lib.hid (HOa.out.below hM.2)
          have HD1b := Lib.hid (Rd.of_owns hM.1)
          have HOzb := Lib.hid HO1b.out.base0
          obtain ⟨qb, db, hv1⟩ := (Rd.of_owns hM.1).shape
          subst hv1
          clear hM HEb HOa hwb
          go_wp2_with (at_builtin; refine wpList_extend Try.elemU8 _ _ _ _ _ _ _ HOzb.out HD1b.out (u8s_oneCell _) HLbb.out rfl _ _ rfl rfl rfl ?_)
          intro v2 wb k1 m1 f1
          obtain ⟨L2, hL2⟩ : ∃ X, L1 ++ groups jv = X := ⟨_, rfl⟩
          have HOb : Hid (OwnB w wb L2 v2) := by
            show OwnB _ _ _ _
            rw [← hL2]
            exact HO1b.out.extended (e := groups jv) k1 m1 f1
          obtain ⟨pb, cb, hv2⟩ := HOb.out.shape
          subst hv2
          have HL2 := Lib.hid hL2
          clear k1 m1 f1 HOzb HD1b HLbb HO1b hL2
          have HLnb : Hid (L2.length ≤ 1000000000) := by show _ ≤ _; rw [← HL2.out, ← HL1.out, List.length_append, List.length_append]; have := HRm.out; omega
          clear d0 d1 d2
          obtain ⟨⟨d0, d1, d2⟩, _⟩ := HAt.out wb HOb.out.bel
          have hwc : IntKind.u64.wrap (s.length : Int) = (s.length : Int) := by rw [IntKind.wrap_u64]; have := HSe.out.2.1; omega
          have HEc := Lib.hid (fun W => ref_encode s.length (by have := HSe.out.2.1; omega) W)
          have HLbc : Hid ((L2.length + (groups s.length).length) * 1 ≤ 140737488355328 ∧ L2.length + (groups s.length).length ≤ maxLen) := by show _ ∧ _; have := groups_ten (x := s.length) (by have := HSe.out.2.1; omega); have := HLnb.out; unfold maxLen; omega
          go_wp2_with fail
          refine (HEc.out wb).mono ?_
          rintro en wxc ⟨rr, rfl, hM⟩
          have HO1c := Lib.hid (HOb.out.below hM.2)
          have HD1c := Lib.hid (Rd.of_owns hM.1)
          have HOzc := Lib.hid HO1c.out.base0
          obtain ⟨qc, dc, hv1⟩ := (Rd.of_owns hM.1).shape
          subst hv1
          clear hM HEc HOb hwc
          go_wp2_with (at_builtin; refine wpList_extend Try.elemU8 _ _ _ _ _ _ _ HOzc.out HD1c.out (u8s_oneCell _) HLbc.out rfl _ _ rfl rfl rfl ?_)
          intro v2 wc k1 m1 f1
          obtain ⟨L3, hL3⟩ : ∃ X, L2 ++ groups s.length = X := ⟨_, rfl⟩
          have HOc : Hid (OwnB w wc L3 v2) := by
            show OwnB _ _ _ _
            rw [← hL3]
            exact HO1c.out.extended (e := groups s.length) k1 m1 f1
          obtain ⟨pc, cc, hv2⟩ := HOc.out.shape
          subst hv2
          have HL3 := Lib.hid hL3
          clear k1 m1 f1 HOzc HD1c HLbc HO1c hL3
          have HLnc : Hid (L3.length + (serTo s s.length).length ≤ 1000000000) := by show _ ≤ _; rw [← HL3.out, ← HL2.out, ← HL1.out, List.length_append, List.length_append, List.length_append]; have := HRm.out; omega
          have HNx2 : Hid (encE t l (i + 1) = L3 ++ serTo s s.length) := by show _ = _; rw [HNx.out, HL1.out, HL2.out, HL3.out]
          have HO9 : Hid (OwnB w wc (L3 ++ serTo s 0) (.slice pc L3.length cc)) := by
            show OwnB _ _ _ _
            have h := HOc.out
            rwa [show serTo s 0 = [] from rfl, List.append_nil]
          clear d0 d1 d2 HNx HRm HL1 HL2 HL3 HLnv HLna HLnb HOc
          go_wp2_with fail
          go_loopw [6, 10, 11] (fun vv zv kv wr2 => ∃ (k : Nat), k ≤ s.length ∧ kv = .int .i64 (k : Int) ∧ zv = .int .i64 (lastZ s k) ∧ Hid (OwnB w wr2 (L3 ++ serTo s k) vv)) (fun _ _ kv _ => s.length - (intOf kv).toNat)
          case atStart => exact ⟨0, Nat.zero_le _, rfl, rfl, HO9.out⟩
          case round =>
            obtain ⟨k, hk, rfl, rfl, HO7⟩ := hrel
            have hkm : (k : Int) ≤ 1000000 := by omega
            obtain ⟨p7, c7, hv7⟩ := HO7.out.shape
            subst hv7
            obtain ⟨⟨d0, d1, d2⟩, hrs⟩ := HAt.out wr HO7.out.bel
            clear d0 d1
            by_cases hkl : k < s.length
            · have hkl' : (k : Int) < (s.length : Int) := by omega
              obtain ⟨x, hx⟩ : ∃ x, s[k]? = some x := ⟨_, List.getElem?_eq_getElem hkl⟩
              obtain ⟨gc, oc, e, hcell⟩ := rdI_at hrs hx
              subst e
              have n0 := hcell wr (Below.refl _ _)
              have HSp : Hid (L3 ++ serTo s (k + 1) = L3 ++ serTo s k ++ groups (x - lastZ s k).toNat) := by show _ = _; rw [serTo_step hx, List.append_assoc]
              have HZn : Hid (lastZ s (k + 1) = x) := lastZ_succ hx
              have hz := lastZ_le hx HSe.out.1 (fun y hy => (HSe.out.2.2 y hy).1)
              have hxb := (HSe.out.2.2 x (List.mem_of_getElem? hx)).2
              have HLnz : Hid ((L3 ++ serTo s k).length ≤ 2000000000) := by show _ ≤ _; rw [List.length_append]; have h1 := HLnc.out; have h2 := serTo_top s k; omega
              obtain ⟨z, hze⟩ : ∃ z, lastZ s k = z := ⟨_, rfl⟩
              rw [hze] at hz HSp ⊢
              obtain ⟨df, hdf⟩ : ∃ df : Nat, x - z = (df : Int) := ⟨(x - z).toNat, by omega⟩
              have HDf : Hid (df < 1000000000) := by show _ < _; omega
              have hdw : IntKind.i64.wrap (x - z) = (df : Int) := by rw [← hdf]; exact IntWalk.i64_in _ (by omega)
              rw [hdf, Int.toNat_natCast] at HSp
              obtain ⟨E7, hE7⟩ : ∃ E7, L3 ++ serTo s k = E7 := ⟨_, rfl⟩
              rw [hE7] at HO7 HLnz HSp ⊢
              have HX := Lib.hid hx
              clear hx hcell hrs hze hE7 hkl
              have hwd : IntKind.u64.wrap (df : Int) = (df : Int) := by rw [IntKind.wrap_u64]; have := HDf.out; omega
              have HEd := Lib.hid (fun W => ref_encode df (by have := HDf.out; omega) W)
              have HLbd : Hid ((E7.length + (groups df).length) * 1 ≤ 140737488355328 ∧ E7.length + (groups df).length ≤ maxLen) := by show _ ∧ _; have := groups_ten (x := df) (by have := HDf.out; omega); have := HLnz.out; unfold maxLen; omega
              go_wp2_with fail
              refine (HEd.out wr).mono ?_
              rintro en wxd ⟨rr, rfl, hM⟩
              have HO1d := Lib.hid (HO7.out.below hM.2)
              have HD1d := Lib.hid (Rd.of_owns hM.1)
              have HOzd := Lib.hid HO1d.out.base0
              obtain ⟨qd, dd, hv1⟩ := (Rd.of_owns hM.1).shape
              subst hv1
              clear hM HEd HO7 hwd
              go_wp2_with (at_builtin; refine wpList_extend Try.elemU8 _ _ _ _ _ _ _ HOzd.out HD1d.out (u8s_oneCell _) HLbd.out rfl _ _ rfl rfl rfl ?_)
              intro v2 wd k1 m1 f1
              obtain ⟨L8, hL8⟩ : ∃ X, E7 ++ groups df = X := ⟨_, rfl⟩
              have HOd : Hid (OwnB w wd L8 v2) := by
                show OwnB _ _ _ _
                rw [← hL8]
                exact HO1d.out.extended (e := groups df) k1 m1 f1
              obtain ⟨pd, cd, hv2⟩ := HOd.out.shape
              subst hv2
              have HL8 := Lib.hid hL8
              clear k1 m1 f1 HOzd HD1d HLbd HO1d hL8
              clear d2 n0
              obtain ⟨⟨d0, d1, d2⟩, hrs⟩ := HAt.out wd HOd.out.bel
              obtain ⟨gc', oc', e, hcell⟩ := rdI_at hrs HX.out
              cases e
              have n0 := hcell wd (Below.refl _ _)
              clear d0 d1 hrs hcell
              go_wp2_with fail
              go_round
              case rel => exact ⟨k + 1, by omega, by go_num, by rw [HZn.out], (by show OwnB _ _ _ _; rw [HSp.out, HL8.out]; exact HOd.out)⟩
              case measure => simp [intOf]; omega
            · have hkl' : ¬ (k : Int) < (s.length : Int) := by omega
              have hke : k = s.length := by omega
              have HE9 : Hid (L3 ++ serTo s k = encE t l (i + 1)) := by show _ = _; rw [hke, HNx2.out]
              clear hke hrs hkl
              go_wp2_with fail
              go_round
              case rel => exact ⟨i + 1, by omega, by go_num, (by show OwnB _ _ _ _; rw [← HE9.out]; exact HO7.out), HLab.out⟩
              case measure => simp [intOf]; omega
        · rw [findS_out hvm]
          have HB := Lib.hid (HBad.out (fun k => hvm k.2))
          have HBw := Lib.hid HO.out.bel
          clear hvm hn
          go_wp2_with fail
          go_ret2
          exact GotBo.fails HBw.out HB.out
      · rw [findS_out hn]
        have HB := Lib.hid (HBad.out (fun k => hn k.1))
        have HBw := Lib.hid HO.out.bel
        clear hn
        go_wp2_with fail
        go_ret2
        exact GotBo.fails HBw.out HB.out
    · have hlt' : ¬ (i : Int) < (l.length : Int) := by omega
      have HAll : Hid (∀ e ∈ l, labIn t e.1) := by have h := HIn.out; rwa [List.take_of_length_le (by omega)] at h
      have HEa : Hid (encE t l i = entsBytes t l) := encE_all _ _ _ (by omega)
      go_wp2_with fail
      go_ret2
      exact ⟨⟨_, by rw [encPo_ok HAll.out]; rfl, by rw [encPo_ok HAll.out, ← HEa.out]; exact HO.out.row⟩, HO.out.bel⟩
end Go.Proofs.Ytpjfhakmffcolaa

end

section
/- A new list of strings, as a result. -/
set_option linter.unusedVariables false
namespace Go.Proofs.Ytpjfhakmffcolaa
open Go Go.RowKit

abbrev OwnS := Own1 9 Value.string
/-- A new list of strings. -/
structure GotL (w : World) (l : List ByteArray) (r : Value) (w' : World) : Prop where
  rd : Rd w' 1 r l.length (strs l)
  far : ∀ k, r.ownBlock = some k → w.heap.size ≤ k
  bel : Below w.heap.size w w'
theorem Own1.got {w wr : World} {l : List ByteArray} {v : Value} (h : OwnS w wr l v) : GotL w l v wr := ⟨h.rd, fun k hk => (h.row.lt k hk).1, h.bel⟩
end Go.Proofs.Ytpjfhakmffcolaa

end

section
/- Layer 10: the reference's Table. -/
set_option linter.unusedVariables false
namespace Go.Proofs.Ytpjfhakmffcolaa
open Go Go.RowKit

theorem tabS_snoc (l : List ByteArray) (x : ByteArray) : tabS (l ++ [x]) = insB ltS x (tabS l) := tabB_snoc l x

set_option maxRecDepth 20000 in
set_option maxHeartbeats 4000000 in
theorem ref_table10 (lv : Value) (l : List ByteArray) (w : World) (hl : Rd w 1 lv l.length (strs l)) (hn : l.length ≤ 1000000000) :
    Calls Try.prog 24 #[lv] w fun e w' => ∃ v, e = .returned v ∧ OwnS w w' (tabS l) v := by
  have HL := Lib.hid hl; have HNn := Lib.hid hn
  obtain ⟨pl, cl, hv⟩ := hl.shape
  subst hv
  clear hl hn
  go_enter Try.func24, Try.ntmps24
  go_wp2_with fail
  go_loopw [3, 4] (fun vv iv wr => ∃ (j : Nat), j ≤ l.length ∧ iv = .int .i64 (j : Int) ∧ Hid (OwnS w wr (tabS (l.take j)) vv)) (fun _ iv _ => l.length - (intOf iv).toNat)
  case atStart => exact ⟨0, by omega, rfl, Own1.nil w⟩
  case round =>
    obtain ⟨j, hj, rfl, HO⟩ := hrel
    by_cases hlt : j < l.length
    · have hlt' : (j : Int) < (l.length : Int) := by omega
      have hji : (j : Int) ≤ 1000000000 := by have := HNn.out; omega
      obtain ⟨b, off, c', e, _, _, _⟩ := HL.out.at (fun e => by have := congrArg List.length e; rw [strs_length] at this; simp at this; subst this; simp at hlt)
      simp only [Value.slice.injEq] at e
      obtain ⟨rfl, _, rfl⟩ := e
      obtain ⟨x, hx⟩ : ∃ x, l[j] = x := ⟨_, rfl⟩
      have HCt : Hid (∀ w', Below w.heap.size w w' → w'.cell? ⟨b, off + j, none⟩ = some (.string x)) := fun w' hb => by
        rw [← hx]; exact rd1_cell (HL.out.below hb) hlt
      have HSt : Hid (tabS (l.take (j + 1)) = insB ltS x (tabS (l.take j))) := by show _ = _; rw [List.take_add_one, List.getElem?_eq_getElem hlt, hx]; exact tabS_snoc _ _
      have hDl : (tabS (l.take j)).length ≤ 1000000000 := by have := tabB_len (lt := ltS) (l.take j); rw [List.length_take] at this; have := HNn.out; unfold tabS; omega
      have HA : Hid (AscB ltS (tabS (l.take j))) := tabB_asc ltS_ok (l.take j)
      clear hx
      generalize tabS (l.take j) = d at *
      obtain ⟨pv, cv, hvv⟩ := (Rd.of_owns HO.out.row).shape
      subst hvv
      obtain ⟨N, hN⟩ : ∃ N, d.length = N := ⟨_, rfl⟩
      rw [hN] at hDl HO ⊢
      have HNe : Hid (d.length = N) := hN
      clear hN
      have HD := Lib.hid hDl
      have hNi : (N : Int) ≤ 1000000000 := by omega
      clear hDl
      go_wp2_with fail
      go_loopw [5] (fun kv wr2 => ∃ (k : Nat), k ≤ N ∧ kv = .int .i64 (k : Int) ∧ Hid (∀ z ∈ d.take k, ltS z x = true) ∧ Hid (OwnS w wr2 d (.slice pv N cv))) (fun kv _ => N - (intOf kv).toNat)
      case atStart => exact ⟨0, Nat.zero_le _, rfl, (by intro z hz; simp at hz), HO.out⟩
      case round =>
        obtain ⟨k, hkN, rfl, HLo, HO2⟩ := hrel
        have hki : (k : Int) ≤ 1000000000 := by omega
        have hcx := HCt.out wr HO2.out.bel
        by_cases hk : k < N
        · have hk' : (k : Int) < (N : Int) := by omega
          obtain ⟨g0, cap0, hv0⟩ : ∃ g cap, (Value.slice pv N cv) = .slice (some ⟨g, 0, none⟩) N cap := by
            rcases owns_cases HO2.out.row with ⟨_, h0, _⟩ | ⟨g, cap, hv, _⟩
            · have := HNe.out; omega
            · rw [HNe.out] at hv; exact ⟨g, cap, hv⟩
          simp only [Value.slice.injEq] at hv0
          obtain ⟨rfl, _, rfl⟩ := hv0
          obtain ⟨y, hy⟩ : ∃ y, d[k]'(by have := HNe.out; omega) = y := ⟨_, rfl⟩
          have hcy : wr.cell? ⟨g0, k, none⟩ = some (.string y) := by rw [← hy]; exact (HO2.out.cell (i := k) (by have := HNe.out; omega)).1
          have HY : Hid (d[k]'(by have := HNe.out; omega) = y) := hy
          have HYd : Hid (d.drop k = y :: d.drop (k + 1)) := by show _ = _; rw [← hy, List.getElem_cons_drop]
          have HYt : Hid (d.take (k + 1) = d.take k ++ [y]) := by show _ = _; rw [List.take_add_one, List.getElem?_eq_getElem (by have := HNe.out; omega), hy]; rfl
          clear hy
          by_cases hyx : ltS y x = true
          · have hcmp : Op.bytesLess y.toList x.toList = true := hyx
            have HLo2 : Hid (∀ z ∈ d.take (k + 1), ltS z x = true) := by
              show ∀ z ∈ _, _
              rw [HYt.out]
              intro z hz
              rcases List.mem_append.1 hz with e | e
              · exact HLo.out z e
              · simp only [List.mem_singleton] at e; subst e; exact hyx
            clear hyx
            go_wp2_with fail
            go_quiet (fail)
            have HO3 := Lib.hid (HO2.out.drewN nq)
            clear hcx hcy HO2 HLo
            generalize wr.drewN nq = wn at *
            go_wp2_with fail
            go_round
            case rel => exact ⟨k + 1, by omega, by go_num, HLo2.out, HO3.out⟩
            case measure => simp [intOf]; omega
          · have hcmp0 : ltS y x = false := by simpa using hyx
            have hcmp : Op.bytesLess y.toList x.toList = false := hcmp0
            have HYX := Lib.hid hcmp0
            clear hcmp0
            clear hyx
            by_cases heq : y = x
            · subst heq
              have HS2 : Hid (tabS (l.take (j + 1)) = d) := by
                show _ = _
                rw [HSt.out]
                have e := insB_at ltS_ok.toLtPre y (d.take k) (d.drop (k + 1)) HLo.out
                rw [← HYd.out, List.take_append_drop] at e
                exact e
              have hse : (y.toList == y.toList) = true := by simp
              go_wp2_with fail
              go_quiet (fail)
              have HO3 := Lib.hid (HO2.out.drewN nq)
              have hcx2 : (wr.drewN nq).cell? ⟨b, off + j, none⟩ = some (.string y) := hcx
              have hcy2 : (wr.drewN nq).cell? ⟨g0, k, none⟩ = some (.string y) := hcy
              clear hcx hcy HO2
              generalize wr.drewN nq = wn at *
              go_wp2_with fail
              go_quiet (fail)
              have HO4 := Lib.hid (HO3.out.drewN nq)
              clear hcx2 hcy2 HO3
              generalize wn.drewN nq = wq at *
              go_wp2_with fail
              go_round
              case rel => exact ⟨j + 1, by omega, by go_num, by rw [HS2.out]; exact HO4.out⟩
              case measure => simp [intOf]; omega
            · have hse : (y.toList == x.toList) = false := by rw [eqS]; simpa using heq
              have HHi : Hid (∀ z, (d.drop k).head? = some z → ltS x z = true) := by
                intro z hz
                rw [HYd.out] at hz
                cases hz
                rcases Bool.eq_false_or_eq_true (ltS x y) with e | e
                · exact e
                · exact absurd (ltS_ok.tot y x HYX.out e) heq
              clear heq
              go_wp2_with fail
              go_quiet (fail)
              have HO3 := Lib.hid (HO2.out.drewN nq)
              have hcx2 : (wr.drewN nq).cell? ⟨b, off + j, none⟩ = some (.string x) := hcx
              have hcy2 : (wr.drewN nq).cell? ⟨g0, k, none⟩ = some (.string y) := hcy
              clear hcx hcy HO2
              generalize wr.drewN nq = wn at *
              go_wp2_with fail
              go_quiet (fail)
              have HOb := Lib.hid (HO3.out.drewN nq)
              clear hcx2 hcy2 HO3
              generalize wn.drewN nq = wb at *
              have HP : Hid (insB ltS x d = d.take k ++ x :: d.drop k) := by
                have e := insB_parts ltS_ok.toLtPre x (d.take k) (d.drop k) HLo.out HHi.out
                rwa [List.take_append_drop] at e
              have HLb : Hid ((N + 1) * 16 ≤ 140737488355328 ∧ N + 1 ≤ maxLen) := by show _ ∧ _; have := HD.out; unfold maxLen; omega
              have HOv : Hid (wb.ownsRow 0 9 1 (.slice (some ⟨g0, 0, none⟩) N cv) N (strs d)) := by
                have h := owns_rebase HOb.out.row (base' := 0) (fun _ _ => Nat.zero_le _)
                rw [HNe.out] at h
                exact h
              go_wp2_with (at_builtin; refine wpList_push Try.elemStr _ #[.string ⟨#[]⟩] _ _ _ HOv.out rfl (one_cell _ rfl) HLb.out rfl _ _ rfl rfl rfl ?_)
              intro v1 w1 k1 m1 f1
              have HO1 : Hid (OwnS w w1 (d ++ [⟨#[]⟩]) v1) := HOb.out.pushed (by rw [HNe.out]; exact k1) m1 f1
              obtain ⟨g, c1, hv1⟩ : ∃ g cap, v1 = .slice (some ⟨g, 0, none⟩) (N + 1) cap := by
                rcases owns_cases k1 with ⟨_, h0, _⟩ | ⟨g, cap, hv, _⟩
                · omega
                · exact ⟨g, cap, hv⟩
              subst hv1
              clear k1 m1 f1 HOv HOb
              go_wp2_with fail
              go_loopw [6] (fun mv wr2 => ∃ (m : Nat) (y : ByteArray), k ≤ m ∧ m ≤ N ∧ mv = .int .i64 (m : Int) ∧ Hid (OwnS w wr2 (d.take m ++ y :: d.drop m) (.slice (some ⟨g, 0, none⟩) (N + 1) c1))) (fun mv _ => (intOf mv).toNat)
              case atStart => exact ⟨N, ⟨#[]⟩, hkN, Nat.le_refl _, rfl, by
                show OwnS _ _ _ _
                rw [List.drop_of_length_le (by have := HNe.out; omega), List.take_of_length_le (by have := HNe.out; omega)]
                exact HO1.out⟩
              case round =>
                obtain ⟨m, y, hkm, hmN, rfl, HO2⟩ := hrel
                have hlen : (d.take m ++ y :: d.drop m).length = N + 1 := by
                  rw [List.length_append, List.length_cons, List.length_take, List.length_drop]; have := HNe.out; omega
                have HLen := Lib.hid hlen
                have hmi : (m : Int) ≤ 1000000000 := by have := HD.out; omega
                have hmN' : (m : Int) < (N : Int) + 1 := by omega
                have hfm := (HO2.out.cell (i := m) (by have := HLen.out; omega)).2
                have hcm := (HO2.out.cell (i := m) (by have := HLen.out; omega)).1
                have hcx := HCt.out wr HO2.out.bel
                generalize (d.take m ++ y :: d.drop m)[m] = yy at hcm
                clear hlen
                by_cases hmk : k < m
                · have hmk' : (k : Int) < (m : Int) := by omega
                  obtain ⟨q, rfl⟩ : ∃ q, m = q + 1 := ⟨m - 1, by omega⟩
                  obtain ⟨z, hz⟩ : ∃ z, d[q]? = some z := ⟨_, List.getElem?_eq_getElem (by have := HNe.out; omega)⟩
                  have HZe := Lib.hid hz
                  have hcz : wr.cell? ⟨g, q, none⟩ = some (.string z) := by
                    rw [(HO2.out.cell (i := q) (by have := HLen.out; omega)).1, ← (List.getElem?_eq_some_iff.1 hz).2]
                    congr 2
                    rw [List.getElem_append_left (by rw [List.length_take]; have := HNe.out; omega), List.getElem_take]
                  have hqs : ((q + 1 : Nat) : Int) - 1 = (q : Int) := by omega
                  have hq0 : (0 : Int) ≤ (q : Int) := by omega
                  have HKM : Hid (k ≤ q + 1 ∧ k < q + 1 ∧ q + 1 ≤ N) := ⟨hkm, hmk, hmN⟩
                  have hqi : (q : Int) ≤ 999999999 := by omega
                  clear hz hkm hmk hmN hmi
                  have HDn : Hid (OwnS w (wr.setCell ⟨g, q + 1, none⟩ (.string z)) (d.take q ++ z :: d.drop q) (.slice (some ⟨g, 0, none⟩) (N + 1) c1)) := by
                    show OwnS _ _ _ _
                    rw [← shift_eqG d q (by have := HNe.out; have := HKM.out; omega) z (List.getElem?_eq_some_iff.1 HZe.out).2]
                    exact HO2.out.stored (shift_setG d (q + 1) y z (by have := HNe.out; have := HKM.out; omega))
                  clear HO2
                  go_wp2_with fail
                  go_round
                  case rel => exact ⟨q, z, by have := HKM.out; omega, by have := HKM.out; omega, by go_num, HDn.out⟩
                  case measure => simp [intOf]
                · have hmk2 : m = k := by omega
                  have hmk' : ¬ (k : Int) < (m : Int) := by omega
                  have HOk : Hid (OwnS w wr (d.take k ++ y :: d.drop k) (.slice (some ⟨g, 0, none⟩) (N + 1) c1)) := by
                    have h := HO2.out
                    rw [hmk2] at h
                    exact h
                  clear hcm hfm
                  have hlen : (d.take k ++ y :: d.drop k).length = N + 1 := by have h := HLen.out; rw [hmk2] at h; exact h
                  have hfk := (HOk.out.cell (i := k) (by omega)).2
                  have hck := (HOk.out.cell (i := k) (by omega)).1
                  have hkN2 : (k : Int) < (N : Int) + 1 := by omega
                  generalize (d.take k ++ y :: d.drop k)[k] = yk at hck
                  have HDn : Hid (OwnS w (wr.setCell ⟨g, k, none⟩ (.string x)) (insB ltS x d) (.slice (some ⟨g, 0, none⟩) (N + 1) c1)) := by
                    show OwnS _ _ _ _
                    rw [HP.out]
                    exact HOk.out.stored (shift_setG d k y x (by have := HNe.out; omega))
                  clear hmk2 hlen HOk hkm hmk hmN
                  clear HO2
                  go_wp2_with fail
                  go_round
                  case rel => exact ⟨j + 1, by omega, by go_num, by rw [HSt.out]; exact HDn.out⟩
                  case measure => simp [intOf]; omega
        · obtain rfl : N = k := by omega
          have hk' : ¬ (N : Int) < (N : Int) := by omega
          have HHi : Hid (∀ z, (d.drop N).head? = some z → ltS x z = true) := by
            intro z hz
            rw [List.drop_of_length_le (by have := HNe.out; omega)] at hz
            cases hz
          go_wp2_with fail
          go_quiet (fail)
          have HO3 := Lib.hid (HO2.out.drewN nq)
          clear hcx HO2
          generalize wr.drewN nq = wn at *
          go_wp2_with fail
          go_quiet (fail)
          have HOb := Lib.hid (HO3.out.drewN nq)
          clear HO3
          generalize wn.drewN nq = wb at *
          have HP : Hid (insB ltS x d = d.take N ++ x :: d.drop N) := by
            have e := insB_parts ltS_ok.toLtPre x (d.take N) (d.drop N) HLo.out HHi.out
            rwa [List.take_append_drop] at e
          have HLb : Hid ((N + 1) * 16 ≤ 140737488355328 ∧ N + 1 ≤ maxLen) := by show _ ∧ _; have := HD.out; unfold maxLen; omega
          have HOv : Hid (wb.ownsRow 0 9 1 (.slice pv N cv) N (strs d)) := by
            have h := owns_rebase HOb.out.row (base' := 0) (fun _ _ => Nat.zero_le _)
            rw [HNe.out] at h
            exact h
          go_wp2_with (at_builtin; refine wpList_push Try.elemStr _ #[.string ⟨#[]⟩] _ _ _ HOv.out rfl (one_cell _ rfl) HLb.out rfl _ _ rfl rfl rfl ?_)
          intro v1 w1 k1 m1 f1
          have HO1 : Hid (OwnS w w1 (d ++ [⟨#[]⟩]) v1) := HOb.out.pushed (by rw [HNe.out]; exact k1) m1 f1
          obtain ⟨g, c1, hv1⟩ : ∃ g cap, v1 = .slice (some ⟨g, 0, none⟩) (N + 1) cap := by
            rcases owns_cases k1 with ⟨_, h0, _⟩ | ⟨g, cap, hv, _⟩
            · omega
            · exact ⟨g, cap, hv⟩
          subst hv1
          clear k1 m1 f1 HOv HOb
          go_wp2_with fail
          go_loopw [6] (fun mv wr2 => ∃ (m : Nat) (y : ByteArray), N ≤ m ∧ m ≤ N ∧ mv = .int .i64 (m : Int) ∧ Hid (OwnS w wr2 (d.take m ++ y :: d.drop m) (.slice (some ⟨g, 0, none⟩) (N + 1) c1))) (fun mv _ => (intOf mv).toNat)
          case atStart => exact ⟨N, ⟨#[]⟩, Nat.le_refl _, Nat.le_refl _, rfl, by
            show OwnS _ _ _ _
            rw [List.drop_of_length_le (by have := HNe.out; omega), List.take_of_length_le (by have := HNe.out; omega)]
            exact HO1.out⟩
          case round =>
            obtain ⟨m, y, hNm, hmN, rfl, HO2⟩ := hrel
            have hlen : (d.take m ++ y :: d.drop m).length = N + 1 := by
              rw [List.length_append, List.length_cons, List.length_take, List.length_drop]; have := HNe.out; omega
            have HLen := Lib.hid hlen
            have hmi : (m : Int) ≤ 1000000000 := by have := HD.out; omega
            have hmN' : (m : Int) < (N : Int) + 1 := by omega
            have hfm := (HO2.out.cell (i := m) (by have := HLen.out; omega)).2
            have hcm := (HO2.out.cell (i := m) (by have := HLen.out; omega)).1
            have hcx := HCt.out wr HO2.out.bel
            generalize (d.take m ++ y :: d.drop m)[m] = yy at hcm
            clear hlen
            by_cases hmk : N < m
            · exfalso; omega
            · have hmk2 : m = N := by omega
              have hmk' : ¬ (N : Int) < (m : Int) := by omega
              have HOk : Hid (OwnS w wr (d.take N ++ y :: d.drop N) (.slice (some ⟨g, 0, none⟩) (N + 1) c1)) := by
                have h := HO2.out
                rw [hmk2] at h
                exact h
              clear hcm hfm
              have hlen : (d.take N ++ y :: d.drop N).length = N + 1 := by have h := HLen.out; rw [hmk2] at h; exact h
              have hfk := (HOk.out.cell (i := N) (by omega)).2
              have hck := (HOk.out.cell (i := N) (by omega)).1
              have hkN2 : (N : Int) < (N : Int) + 1 := by omega
              generalize (d.take N ++ y :: d.drop N)[N] = yk at hck
              have HDn : Hid (OwnS w (wr.setCell ⟨g, N, none⟩ (.string x)) (insB ltS x d) (.slice (some ⟨g, 0, none⟩) (N + 1) c1)) := by
                show OwnS _ _ _ _
                rw [HP.out]
                exact HOk.out.stored (shift_setG d N y x (by have := HNe.out; omega))
              clear hmk2 hlen HOk hNm hmk hmN
              clear HO2
              go_wp2_with fail
              go_round
              case rel => exact ⟨j + 1, by omega, by go_num, by rw [HSt.out]; exact HDn.out⟩
              case measure => simp [intOf]; omega
    · have hlt' : ¬ (j : Int) < (l.length : Int) := by omega
      rw [List.take_of_length_le (by omega)] at HO
      obtain ⟨pv, cv, hvv⟩ := (Rd.of_owns HO.out.row).shape
      subst hvv
      go_wp2_with fail
      go_ret
      exact ⟨_, rfl, HO.out⟩
end Go.Proofs.Ytpjfhakmffcolaa

end

section
/- Layer 10: the statements' own bounds. -/
set_option linter.unusedVariables false
namespace Go.Proofs.Ytpjfhakmffcolaa
open Go Go.RowKit

set_option maxHeartbeats 2000000 in
theorem long10 (lv : Value) (l : List ByteArray) (w : World) (hl : Rd w 1 lv l.length (strs l)) :
    Calls Try.prog 23 #[lv] w fun e w' => (e = .returned (.int .i64 1) ∨ (e = .returned (.int .i64 0) ∧ ∀ s ∈ l, s.size ≤ 65535)) ∧ Below w.heap.size w w' := by
  have HL := Lib.hid hl
  obtain ⟨pl, cl, hv⟩ := hl.shape
  subst hv
  have hmax : (l.length : Int) ≤ 9223372036854775807 := by have := hl.le; unfold maxLen at this; omega
  clear hl
  go_enter Try.func23, Try.ntmps23
  go_wp2_with fail
  go_loopw [7] (fun iv wr => ∃ (j : Nat), j ≤ l.length ∧ iv = .int .i64 (j : Int) ∧ Hid (∀ s ∈ l.take j, s.size ≤ 65535) ∧ Hid (Below w.heap.size w wr)) (fun iv _ => l.length - (intOf iv).toNat)
  case atStart => exact ⟨0, Nat.zero_le _, rfl, (by intro s hs; simp at hs), Below.refl _ _⟩
  case round =>
    obtain ⟨j, hj, rfl, HF, HB⟩ := hrel
    by_cases hlt : j < l.length
    · have hlt' : (j : Int) < (l.length : Int) := by omega
      obtain ⟨b, off, c', e, _, _, _⟩ := HL.out.at (fun e => by have := congrArg List.length e; rw [strs_length] at this; simp at this; subst this; simp at hlt)
      simp only [Value.slice.injEq] at e
      obtain ⟨rfl, _, rfl⟩ := e
      obtain ⟨x, hx⟩ : ∃ x, l[j]? = some x := ⟨_, List.getElem?_eq_getElem hlt⟩
      have hcx : wr.cell? ⟨b, off + j, none⟩ = some (.string x) := by rw [← (List.getElem?_eq_some_iff.1 hx).2]; exact rd1_cell (HL.out.below HB.out) hlt
      have HX := Lib.hid hx
      clear hx
      by_cases hz : (65535 : Int) < (x.size : Int)
      · go_wp2_with fail
        go_ret
        exact ⟨Or.inl rfl, HB.out⟩
      · have HF2 : Hid (∀ s ∈ l.take (j + 1), s.size ≤ 65535) := by
          intro s hs
          rw [List.take_add_one, HX.out] at hs
          rcases List.mem_append.1 hs with e | e
          · exact HF.out s e
          · simp at e; subst e; omega
        go_wp2_with fail
        go_round
        case rel => exact ⟨j + 1, by omega, by go_num, HF2.out, HB.out⟩
        case measure => simp [intOf]; omega
    · have hlt' : ¬ (j : Int) < (l.length : Int) := by omega
      have HD : Hid (∀ s ∈ l, s.size ≤ 65535) := by
        have h := HF.out
        rw [List.take_of_length_le (by omega)] at h
        exact h
      go_wp2_with fail
      go_ret
      exact ⟨Or.inr ⟨rfl, HD.out⟩, HB.out⟩
end Go.Proofs.Ytpjfhakmffcolaa

end

section
/- Layer 15: no index is longer than its bytes. No program in sight. -/
set_option linter.unusedVariables false
namespace Go.Proofs.Ytpjfhakmffcolaa
open Go Go.RowKit

theorem flat_ge {α : Type} (f : α → List Nat) (l : List α) (h : ∀ x ∈ l, 1 ≤ (f x).length) : l.length ≤ (l.flatMap f).length ∧ ∀ x ∈ l, (f x).length ≤ (l.flatMap f).length := by
  induction l with
  | nil => exact ⟨Nat.le_refl _, fun x hx => by cases hx⟩
  | cons y l ih =>
    obtain ⟨h1, h2⟩ := ih (fun z hz => h z (by simp [hz]))
    have h3 := h y (by simp)
    rw [List.flatMap_cons, List.length_append, List.length_cons]
    refine ⟨by omega, fun x hx => ?_⟩
    rcases List.mem_cons.1 hx with rfl | hx
    · omega
    · have := h2 x hx; omega
theorem groups_one (n : Nat) : 1 ≤ (groups n).length := by
  rw [groups]; split <;> simp
theorem ser_ge (l : List Int) : ∀ s, l.length ≤ (fManyS serB (fun _ x => some x) s l).length := by
  induction l with
  | nil => intro s; simp [fManyS]
  | cons x l ih =>
    intro s
    rw [fManyS, List.length_append, List.length_cons]
    have h1 := ih (some x)
    have h2 : 1 ≤ (serB s x).length := groups_one _
    omega
theorem ents_ge (t : List ByteArray) (l : List Ent) : l.length ≤ (entsBytes t l).length ∧ ∀ e ∈ l, e.2.length ≤ (entsBytes t l).length := by
  have hk : ∀ e : Ent, e.2.length ≤ (entBytes t e).length ∧ 1 ≤ (entBytes t e).length := fun e => by
    have h1 := ser_ge e.2 none
    have h2 := groups_one e.2.length
    rw [entBytes, serBytes, List.length_append, List.length_append]
    omega
  obtain ⟨h1, h2⟩ := flat_ge (entBytes t) l (fun e _ => (hk e).2)
  rw [entsBytes, List.length_append]
  exact ⟨by omega, fun e he => by have := h2 e he; have := (hk e).1; omega⟩
end Go.Proofs.Ytpjfhakmffcolaa

end
