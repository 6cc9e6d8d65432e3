/- SyD, BytesClone, WireFn, WireB, WireTup, VarintGet, WireGu, WireEu, WireNe, WireFu, in one text. -/
import Derived.Test.YteiffpninifjlaaMrg9
import Derived.Test.YteiffpninifjlaaMrg8
import Derived.Test.YteiffpninifjlaaMrg5
import Derived.Shelf.SlicesE.IndexFunc
import Derived.Test.YteiffpninifjlaaMrg4
import Derived.Test.YteiffpninifjlaaMrg6
import Derived.Test.YteiffpninifjlaaMrg2
import Derived.Test.YteiffpninifjlaaMrg3
import Derived.Test.YteiffpninifjlaaMrg1

section
/- Layer 10: Index, Encode. -/
set_option linter.unusedVariables false
set_option maxRecDepth 20000
namespace Go.Proofs.Yteiffpninifjlaa
open Go Go.RowKit

def renContainsS : Go.Shelf.Ren := ⟨fun | 6 => 49 | 8 => 27 | n => n, fun | 0 => 0 | 3 => 3 | 4 => 4 | 22 => 22 | 23 => 9 | 25 => 50 | n => n, fun n => n⟩
theorem laysContainsS : Go.Proofs.SlLaysH.n8 Try.prog renContainsS := { mixed := by kernel_rfl, f6 := ⟨"slices.IndexFunc[[]string,string]", by decide, Try.func49.trans (congrArg some (by kernel_rfl))⟩, f8 := ⟨"slices.ContainsFunc[[]string,string]", by decide, Try.func27.trans (congrArg some (by kernel_rfl))⟩, t0 := Try.underlying0, a0 := Try.isAgg0, z0 := Try.sizeOf0, v0 := Try.zeroValue0, t3 := Try.underlying3, a3 := Try.isAgg3, z3 := Try.sizeOf3, v3 := Try.zeroValue3, t4 := Try.underlying4, a4 := Try.isAgg4, z4 := Try.sizeOf4, v4 := Try.zeroValue4, t22 := Try.underlying22, a22 := Try.isAgg22, z22 := Try.sizeOf22, v22 := Try.zeroValue22, a23 := Try.isAgg9, z23 := Try.sizeOf9, t25 := Try.underlying50, a25 := Try.isAgg50, z25 := Try.sizeOf50, v25 := Try.zeroValue50 }

theorem too_long (x : ByteArray) (w : World) : Calls Try.prog 28 #[.string x] w fun e w' => e = .returned (.bool (decide (65535 < x.size))) ∧ w' = w := by
  by_cases h : 65535 < x.size
  · have h' : (65535 : Int) < (x.size : Int) := by omega
    have HD : Hid (decide (65535 < x.size) = true) := decide_eq_true h
    clear h
    go_enter Try.func28, Try.ntmps28
    go_wp2_with fail
    go_ret
    exact ⟨by rw [HD.out]; simp, rfl⟩
  · have h' : ¬ (65535 : Int) < (x.size : Int) := by omega
    have HD : Hid (decide (65535 < x.size) = false) := decide_eq_false h
    clear h
    go_enter Try.func28, Try.ntmps28
    go_wp2_with fail
    go_ret
    exact ⟨by rw [HD.out]; simp, rfl⟩
theorem any_long (t : List ByteArray) : (t.any fun x => decide (65535 < x.size)) = decide (¬ Fits t) := by
  by_cases h : Fits t
  · rw [decide_eq_false (not_not_intro h), List.any_eq_false]
    intro x hx
    have := h x hx
    simp; omega
  · rw [decide_eq_true h, List.any_eq_true]
    have h2 : ∃ x, x ∈ t ∧ ¬ x.size ≤ 65535 := Classical.byContradiction fun e => h fun x hx => Classical.byContradiction fun e2 => e ⟨x, hx, e2⟩
    obtain ⟨x, hx, hs⟩ := h2
    exact ⟨x, hx, by simp; omega⟩
theorem contains_long (tv : Value) (t : List ByteArray) (w : World) (h : Rd w 1 tv t.length (strs t)) (hn : t.length ≤ 1000000) :
    Calls Try.prog 27 #[tv, .func (.func 28) #[] #[]] w fun e w' => e = .returned (.bool (decide (¬ Fits t))) ∧ Below w.heap.size w w' := by
  rw [← any_long]
  by_cases h0 : t = []
  · subst h0
    obtain ⟨p, c, hv⟩ := h.shape
    subst hv
    refine (AnyE.slices_ContainsFunc_empty laysContainsS p c _ w).mono ?_
    rintro e w' ⟨rfl, rfl⟩
    exact ⟨rfl, Below.refl _ _⟩
  · obtain ⟨b, off, c, rfl, _, _, hc⟩ := h.at (fun e => h0 (by have := congrArg List.length e; rw [strs_length] at this; exact List.eq_nil_of_length_eq_zero this))
    have h1 := AnyE.slices_ContainsFunc laysContainsS Value.string (fun x => decide (65535 < x.size)) 28 #[] (fun _ _ => rfl) b off t.length c t w
      (fun W x _ => (too_long x W).mono fun e w' h => ⟨h.1, 0, h.2⟩) (Nat.le_refl _) (by omega) (fun j hj => hc j _ (by rw [strs_get t j hj, getElem!_pos t j hj]))
    rw [List.take_length] at h1
    refine h1.mono ?_
    rintro e w' ⟨rfl, q, rfl⟩
    exact ⟨rfl, rfl, rfl, rfl, Nat.le_refl _, fun _ _ => rfl⟩

theorem index_met (tv : Value) (t : List ByteArray) (s : ByteArray) (w : World) (h : Rd w 1 tv t.length (strs t)) (hn : t.length ≤ 1000000) (ha : AscB ltS t) :
    Calls Try.prog 16 #[tv, .string s] w fun e w' => e = .returned (.tuple #[.int .i64 (max (findS t s) 0), .bool (decide (0 ≤ findS t s))]) ∧ Below w.heap.size w w' := by
  have HS := Lib.hid (search_row tv t s w h hn ha)
  obtain ⟨p, c, hv⟩ := h.shape
  subst hv
  clear h ha
  by_cases hf : 0 ≤ findS t s
  · have hd : decide (0 ≤ findS t s) = true := decide_eq_true hf
    have HMx : Hid (max (findS t s) 0 = findS t s) := Int.max_eq_left hf
    have HF := Lib.hid hf
    rw [HMx.out, hd]
    rw [hd] at HS
    clear hf hd HMx
    go_enter Try.func16, Try.ntmps16
    go_wp2_with fail
    refine HS.out.mono ?_
    rintro e w1 ⟨k, rfl, hk, q, rfl⟩
    have HK := Lib.hid (hk HF.out)
    clear hk HS
    go_wp2_with fail
    go_ret2
    exact ⟨by rw [HK.out]; rfl, rfl, rfl, rfl, Nat.le_refl _, fun _ _ => rfl⟩
  · have hd : decide (0 ≤ findS t s) = false := decide_eq_false hf
    have HMx : Hid (max (findS t s) 0 = 0) := Int.max_eq_right (by omega)
    rw [HMx.out, hd]
    rw [hd] at HS
    clear hf hd HMx
    go_enter Try.func16, Try.ntmps16
    go_wp2_with fail
    refine HS.out.mono ?_
    rintro e w1 ⟨k, rfl, hk, q, rfl⟩
    clear hk HS
    go_wp2_with fail
    go_ret2
    exact ⟨rfl, rfl, rfl, rfl, Nat.le_refl _, fun _ _ => rfl⟩

set_option maxHeartbeats 1000000 in
theorem encode_met (tv : Value) (t : List ByteArray) (w : World) (h : Rd w 1 tv t.length (strs t)) (hn : t.length ≤ 1000000) :
    Calls Try.prog 18 #[tv] w (GotB w (encSyR t)) := by
  have HL := Lib.hid h; have HN := Lib.hid hn
  have HC := Lib.hid (contains_long tv t w h hn)
  obtain ⟨p, c, hv⟩ := h.shape
  subst hv
  clear h hn
  by_cases hf : Fits t
  · rw [decide_eq_false (not_not_intro hf)] at HC
    have HF := Lib.hid hf
    clear hf
    by_cases ha : AscB ltS t
    · have HR : Hid (encSyR t = (0, encSy t)) := encSyR_of HF.out ha
      have hd : decide (AscB ltS t) = true := decide_eq_true ha
      have htm : (t.length : Int) ≤ 1000000 := by have := HN.out; omega
      have hw : IntKind.u64.wrap (t.length : Int) = (t.length : Int) := by rw [IntKind.wrap_u64]; omega
      clear ha
      go_enter Try.func18, Try.ntmps18
      go_wp2_with fail
      refine HC.out.mono ?_
      rintro e w1 ⟨rfl, hB⟩
      have HB := Lib.hid hB
      have HA := Lib.hid (is_ascending _ t w1 (HL.out.below hB))
      rw [hd] at HA
      clear hd hB HC
      go_wp2_with fail
      refine HA.out.mono ?_
      rintro e w2 ⟨rfl, hB⟩
      have HB2 : Hid (Below w.heap.size w w2) := HB.out.trans (hB.mono HB.out.size)
      clear hB HA HB
      go_wp2_with fail
      refine (append_any _ 0 [] t.length (by omega) w2 (World.ownsRow_nil _ _ _ _) (by omega)).mono ?_
      rintro e w3 ⟨r, rfl, hP⟩
      have HO3 : Hid (OwnB w w3 (encPre t 0) r) := by
        have h1 := hP.made HB2.out.size nil_block
        rw [show encPre t 0 = groups t.length from by simp [encPre]]
        rw [Nat.zero_add, List.nil_append] at h1
        exact ⟨h1, HB2.out.trans (hP.below HB2.out.size nil_block)⟩
      obtain ⟨p1, c1, hr⟩ := HO3.out.shape
      subst hr
      have hn0 : 0 + (groups t.length).length = (encPre t 0).length := by simp [encPre]
      clear hP HB2
      first | rw [hn0] | skip
      go_wp2_with fail
      go_loopw [4, 18] (fun vv iv wr => ∃ (i : Nat), i ≤ t.length ∧ iv = .int .i64 (i : Int) ∧ Hid (OwnB w wr (encPre t i) vv)) (fun _ iv _ => t.length - (intOf iv).toNat)
      case atStart => exact ⟨0, Nat.zero_le _, rfl, HO3.out⟩
      case round =>
        obtain ⟨i, hi, rfl, HO⟩ := hrel
        have him : (i : Int) ≤ 1000000 := by omega
        obtain ⟨pv, cv, hvv⟩ := HO.out.shape
        subst hvv
        by_cases hlt : i < t.length
        · have hlt' : (i : Int) < (t.length : Int) := by omega
          obtain ⟨b, off, c', e, _, _, _⟩ := HL.out.at (fun e => by have := congrArg List.length e; rw [strs_length] at this; simp at this; subst this; simp at hlt)
          simp only [Value.slice.injEq] at e
          obtain ⟨rfl, _, rfl⟩ := e
          obtain ⟨x, hx⟩ : ∃ x, t[i]? = some x := ⟨_, List.getElem?_eq_getElem hlt⟩
          have hcx : wr.cell? ⟨b, off + i, none⟩ = some (.string x) := by rw [← (List.getElem?_eq_some_iff.1 hx).2]; exact rd1_cell (HL.out.below HO.out.bel) hlt
          have HNx := Lib.hid (encPre_step hx)
          have hxs : x.size ≤ 65535 := HF.out x (List.mem_of_getElem? hx)
          have HAp := Lib.hid (append_bytes _ _ (encPre t i) x wr HO.out.base0 (by have := encPre_len HF.out HN.out i; omega))
          clear hx hxs
          generalize encPre t i = D at *
          obtain ⟨dl, hdl⟩ : ∃ dl, D.length = dl := ⟨_, rfl⟩
          have HDl := Lib.hid hdl
          rw [hdl] at HAp HO ⊢
          clear hdl
          go_wp2_with fail
          refine HAp.out.mono ?_
          rintro e w4 ⟨r4, rfl, hP⟩
          have HO4 : Hid (OwnB w w4 (encPre t (i + 1)) r4) := by
            have hv : ∀ k, (Value.slice pv dl cv).ownBlock = some k → w.heap.size ≤ k := fun k hk => (HO.out.row.lt k hk).1
            have h1 := hP.made HO.out.bel.size hv
            rw [HNx.out]
            refine ⟨?_, HO.out.bel.trans (hP.below HO.out.bel.size hv)⟩
            rw [List.length_append, HDl.out]
            exact h1
          obtain ⟨p4, c4, hr⟩ := HO4.out.shape
          subst hr
          clear hP HAp hcx HO
          go_wp2_with fail
          go_roundw
          case rel => exact ⟨i + 1, by omega, by go_num, HO4.out⟩
          case measure => simp [intOf]; omega
        · have hlt' : ¬ (i : Int) < (t.length : Int) := by omega
          have hE : encPre t i = encSy t := by rw [encPre, List.take_of_length_le (by omega)]; rfl
          have HO5 := HO.out
          rw [hE] at HO5 ⊢
          have HO6 := Lib.hid HO5
          clear HO HO5 hE HL HN
          generalize encSy t = E at *
          go_wp2_with fail
          go_ret2
          rw [HR.out]
          exact ⟨⟨_, rfl, HO6.out.rd, fun k hk => (HO6.out.row.lt k hk).1⟩, HO6.out.bel⟩
    · have HR : Hid (encSyR t = (16, [])) := by
        show _ = _
        rw [encSyR, if_neg (not_not_intro HF.out), if_pos ha]
      have hd : decide (AscB ltS t) = false := decide_eq_false ha
      clear ha
      go_enter Try.func18, Try.ntmps18
      go_wp2_with fail
      refine HC.out.mono ?_
      rintro e w1 ⟨rfl, hB⟩
      have HB := Lib.hid hB
      have HA := Lib.hid (is_ascending _ t w1 (HL.out.below hB))
      rw [hd] at HA
      clear hd hB HC
      go_wp2_with fail
      refine HA.out.mono ?_
      rintro e w2 ⟨rfl, hB⟩
      have HB2 : Hid (Below w.heap.size w w2) := HB.out.trans (hB.mono HB.out.size)
      clear hB HA HB
      go_wp2_with fail
      go_ret2
      rw [HR.out]
      exact ⟨⟨_, rfl, Rd.nil _ _, fun k e => by cases e⟩, HB2.out⟩
  · rw [decide_eq_true hf] at HC
    have HR : Hid (encSyR t = (7, [])) := by
      show _ = _
      rw [encSyR, if_pos hf]
    clear hf
    go_enter Try.func18, Try.ntmps18
    go_wp2_with fail
    refine HC.out.mono ?_
    rintro e w1 ⟨rfl, hB⟩
    have HB := Lib.hid hB
    clear hB HC
    go_wp2_with fail
    go_ret2
    rw [HR.out]
    exact ⟨⟨_, rfl, Rd.nil _ _, fun k e => by cases e⟩, HB.out⟩
end Go.Proofs.Yteiffpninifjlaa

end

section
/- bytes.Clone. -/
set_option linter.unusedVariables false
namespace Go.Proofs.Yteiffpninifjlaa
open Go Go.RowKit
set_option maxHeartbeats 400000 in
theorem bytes_clone (v : Value) (n : Nat) (vs : List Value) (w : World) (h : Rd w 1 v n vs) (h1 : ∀ u ∈ vs, u.oneCell' = true) (hn : n ≤ 140737488355328) :
    Calls Try.prog 52 #[v] w fun e w' => ∃ r, e = .returned r ∧ Made w w' 5 1 r n vs := by
  have hq : ∀ (w : World) (a : Option Addr) (n c n' c' : Nat), (binOp .eql 33 (.slice a n c) (.slice none n' c')).run Try.prog w = .ok (.bool a.isNone) w := fun w a n c n' c' => Lib.run_eql_slice_nil w _ _ a n c n' c' Try.underlying33
  obtain ⟨p, c, hv⟩ := h.shape
  subst hv
  cases p with
  | none =>
    obtain ⟨_, _, e, hl, _, _, hnil, _⟩ := h
    simp only [Value.slice.injEq] at e
    obtain ⟨rfl, _, rfl⟩ := e
    obtain ⟨rfl, rfl⟩ := hnil rfl
    obtain rfl : vs = [] := List.eq_nil_of_length_eq_zero (by simpa using hl)
    go_enter Try.func52, Try.ntmps52
    go_wp2
    go_ret
    exact ⟨_, rfl, World.ownsRow_nil _ _ _ _, Below.refl _ _⟩
  | some ad =>
    have hmax : n ≤ maxLen := by unfold maxLen; omega
    have HB : Hid (Below w.heap.size w (w.alloc (.cells #[] 5))) := (Below.refl _ _).alloc (Nat.le_refl _) _
    have HR := Lib.hid (h.below HB.out)
    clear h
    have HO : Hid ((w.alloc (.cells #[] 5)).ownsRow 0 5 1 (.slice (some ⟨w.heap.size, 0, none⟩) 0 0) 0 []) := World.ownsRow_lit (base := 0) w #[] 0 (Nat.zero_le _) (by simp [maxLen]) (by simp)
    have HL : Hid ((0 + n) * 1 ≤ 140737488355328 ∧ 0 + n ≤ maxLen) := by show _ ∧ _; omega
    go_enter Try.func52, Try.ntmps52
    go_wp2_with (at_builtin; refine wpList_extend Try.elemU8 _ _ _ _ _ _ _ HO.out HR.out h1 HL.out rfl _ _ rfl rfl rfl ?_)
    intro v' w1 hown hmods hfr
    have HM : Hid (Made w w1 5 1 v' n vs) := by
      refine ⟨?_, HB.out.trans (hmods.below HB.out.size (fun k hk e => by simp [Value.ownBlock] at e; omega))⟩
      try simp only [List.nil_append, Nat.zero_add] at hown
      exact owns_rebase hown (fun k hk => by
        rcases hfr k hk with e | e
        · simp [Value.ownBlock] at e; omega
        · have := HB.out.size; omega)
    clear hown hmods hfr
    go_wp2
    go_ret
    exact ⟨_, rfl, HM.out⟩
end Go.Proofs.Yteiffpninifjlaa

end

section
/- Layer 4: NewReader. -/
set_option linter.unusedVariables false
set_option maxRecDepth 20000
namespace Go.Proofs.Yteiffpninifjlaa
open Go Go.RowKit


theorem rd_new (v : Value) (B : List Nat) (w : World) (h : Rd w 1 v B.length (u8s B)) (hz : B.length ≤ 140737488355000) :
    Calls Try.prog 34 #[v] w fun en w' => ∃ p vr, en = .returned (.pointer (some ⟨p, 0, none⟩)) ∧ RRd w' p vr B 0 0 ∧ w.heap.size ≤ p ∧ (∀ k, vr.ownBlock = some k → w.heap.size ≤ k ∧ k < w'.heap.size) ∧ Below w.heap.size w w' := by
  have H := Lib.hid h
  obtain ⟨q, c, hv⟩ := h.shape
  subst hv
  have HL : Hid (B.length ≤ 140737488355328) := by show _ ≤ _; omega
  clear h
  go_enter Try.func34, Try.ntmps34
  go_wp2_with fail
  refine (bytes_clone _ B.length _ w H.out (u8s_oneCell _) HL.out).mono ?_
  rintro en w1 ⟨r, rfl, hM⟩
  have HB := Lib.hid hM.2
  have HM := Lib.hid hM.1
  obtain ⟨p3, c3, hr⟩ := (Rd.of_owns hM.1).shape
  subst hr
  clear hM
  go_wp2_with fail
  go_ret
  have hs := HB.out.size
  have hb : Below w.heap.size w1 (w1.alloc (.cells #[.slice p3 B.length c3, .int .i64 0, .int .i64 0] 82)) := (Below.refl _ _).alloc hs _
  refine ⟨w1.heap.size, _, rfl, ⟨Blk.new w1 _ _, ?_, fun k hk => ?_⟩, hs, fun k hk => ⟨(HM.out.lt k hk).1, by have := (HM.out.lt k hk).2; simp; omega⟩, HB.out.trans hb⟩
  · exact (Rd.of_owns HM.out).below ((Below.refl _ _).alloc (Nat.le_refl _) _)
  · have := (HM.out.lt k hk).2; omega
end Go.Proofs.Yteiffpninifjlaa

end

section
/- Layer 4: the program's reader: At, Err, End, Fail, of a reader and of nil. -/
set_option linter.unusedVariables false
set_option maxRecDepth 20000
namespace Go.Proofs.Yteiffpninifjlaa
open Go Go.RowKit

theorem rd_at (q : Nat) (v : Value) (B : List Nat) (a : Nat) (e : Int) (w : World) (h : RRd w q v B a e) :
    Calls Try.prog 36 #[.pointer (some ⟨q, 0, none⟩)] w fun en w' => en = .returned (.int .i64 (a : Int)) ∧ w' = w := by
  obtain ⟨c0, c1, c2, f1, f2⟩ := h.cells
  clear h
  go_enter Try.func36, Try.ntmps36
  go_wp2
  go_ret
  exact ⟨rfl, rfl⟩
theorem nil_at (w : World) : Calls Try.prog 36 #[.pointer none] w fun en w' => en = .returned (.int .i64 0) ∧ w' = w := by
  go_enter Try.func36, Try.ntmps36
  go_wp2
  go_ret
  exact ⟨rfl, rfl⟩
theorem rd_err (q : Nat) (v : Value) (B : List Nat) (a : Nat) (e : Int) (w : World) (h : RRd w q v B a e) :
    Calls Try.prog 57 #[.pointer (some ⟨q, 0, none⟩)] w fun en w' => en = .returned (.int .i64 e) ∧ w' = w := by
  obtain ⟨c0, c1, c2, f1, f2⟩ := h.cells
  clear h
  go_enter Try.func57, Try.ntmps57
  go_wp2
  go_ret
  exact ⟨rfl, rfl⟩
theorem nil_err (w : World) : Calls Try.prog 57 #[.pointer none] w fun en w' => en = .returned (.int .i64 1) ∧ w' = w := by
  go_enter Try.func57, Try.ntmps57
  go_wp2
  go_ret
  exact ⟨rfl, rfl⟩
theorem rd_fail (q : Nat) (v : Value) (B : List Nat) (a : Nat) (e x : Int) (w : World) (h : RRd w q v B a e) :
    Calls Try.prog 37 #[.pointer (some ⟨q, 0, none⟩), .int .i64 x] w fun en w' => en = .returned (.tuple #[]) ∧ RRd w' q v B a (if e = 0 then x else e) ∧ Mods (fun k => k = q) w w' := by
  obtain ⟨c0, c1, c2, f1, f2⟩ := h.cells
  have H := Lib.hid h
  clear h
  by_cases he : e = 0
  · subst he
    go_enter Try.func37, Try.ntmps37
    go_wp2
    go_end0
    exact ⟨rfl, by simpa using H.out.setErr x, mods_set _ _ _ _⟩
  · have heb : (e == 0) = false := by rw [beq_eq_false_iff_ne]; exact he
    go_enter Try.func37, Try.ntmps37
    go_wp2
    go_end0
    exact ⟨rfl, by simpa [he] using H.out, Mods.refl _ _⟩
theorem nil_fail (x : Int) (w : World) : Calls Try.prog 37 #[.pointer none, .int .i64 x] w fun en w' => en = .returned (.tuple #[]) ∧ w' = w := by
  go_enter Try.func37, Try.ntmps37
  go_wp2
  go_end0
  exact ⟨rfl, rfl⟩
set_option maxHeartbeats 400000 in
theorem rd_end (q : Nat) (v : Value) (B : List Nat) (a : Nat) (e : Int) (w : World) (h : RRd w q v B a e) :
    Calls Try.prog 39 #[.pointer (some ⟨q, 0, none⟩)] w fun en w' => en = .returned (.int .i64 (if e = 0 ∧ a < B.length then 4 else e)) ∧ ∃ n, w' = w.drewN n := by
  have HG := Lib.hid (rd_err q v B a e w h)
  obtain ⟨c0, c1, c2, f1, f2⟩ := h.cells
  obtain ⟨p, c, hv⟩ := h.rd.shape
  subst hv
  clear h
  by_cases he : e = 0
  · subst he
    by_cases hlt : a < B.length
    · have hlt2 : (a : Int) < (B.length : Int) := by omega
      have HE : Hid ((if (0 : Int) = 0 ∧ a < B.length then (4 : Int) else 0) = 4) := if_pos ⟨rfl, hlt⟩
      rw [HE.out]
      go_enter Try.func39, Try.ntmps39
      go_wp2_with fail
      refine HG.out.mono ?_
      rintro en w1 ⟨rfl, rfl⟩
      go_wp2_with fail
      go_quiet (fail)
      go_wp2_with fail
      go_ret
      exact ⟨rfl, _, rfl⟩
    · have hlt2 : ¬ (a : Int) < (B.length : Int) := by omega
      have HE : Hid ((if (0 : Int) = 0 ∧ a < B.length then (4 : Int) else 0) = 0) := if_neg (fun h => hlt h.2)
      rw [HE.out]
      go_enter Try.func39, Try.ntmps39
      go_wp2_with fail
      refine HG.out.mono ?_
      rintro en w1 ⟨rfl, rfl⟩
      go_wp2_with fail
      go_quiet (fail)
      go_wp2_with fail
      go_ret
      exact ⟨rfl, _, rfl⟩
  · have HE : Hid ((if e = 0 ∧ a < B.length then (4 : Int) else e) = e) := if_neg (fun h => he h.1)
    rw [HE.out]
    have heb : (e == 0) = false := by rw [beq_eq_false_iff_ne]; exact he
    go_enter Try.func39, Try.ntmps39
    go_wp2_with fail
    refine HG.out.mono ?_
    rintro en w1 ⟨rfl, rfl⟩
    go_wp2_with fail
    go_ret
    exact ⟨rfl, 0, rfl⟩
theorem nil_end (w : World) : Calls Try.prog 39 #[.pointer none] w fun en w' => en = .returned (.int .i64 1) ∧ w' = w := by
  have HG := Lib.hid (nil_err w)
  go_enter Try.func39, Try.ntmps39
  go_wp2_with fail
  refine HG.out.mono ?_
  rintro en w1 ⟨rfl, rfl⟩
  go_wp2_with fail
  go_ret
  exact ⟨rfl, rfl⟩
end Go.Proofs.Yteiffpninifjlaa

end

section
/- Layer 4: what a function that reads at an offset gives back; a slice between two bounds. -/
set_option linter.unusedVariables false
namespace Go.Proofs.Yteiffpninifjlaa
open Go Go.RowKit


/-- What a function that reads at an offset gives back: a value, the offset behind it and OK, or zeros and the error. -/
def Tup {α : Type} (o : Out α) (val : α → Value) (z : Value) : Value := match o with
  | .ok x b => .tuple #[val x, .int .i64 (b : Int), .int .i64 0]
  | .bad e => .tuple #[z, .int .i64 0, .int .i64 (e : Int)]

/-- 's[i:k]'. -/
theorem wpList_fromTo {P : Program} {t e : TypeId} {sz bytes : Nat} (hE : Elem P t e sz bytes) (w : World) (v : Value) (n i k : Nat) (vs : List Value) (h0 : Rd w sz v n vs) (hi : i ≤ k) (hk : k ≤ n)
    {ops : Array Oper} {rest : List Oper} {o : Oper} {a : Act} {Q : Exit → Act → World → Prop} (hgd : Region.wanted o (yielded ops a.tmps) = true) (s x y : Operand) (ho : o.op = .slice t s (some x) (some y) none)
    (hs : a.eval s = v) (hx : a.eval x = .int .i64 (i : Int)) (hy : a.eval y = .int .i64 (k : Int))
    (h : ∀ p c, Rd w sz (.slice p (k - i) c) (k - i) ((vs.take (k * sz)).drop (i * sz)) → wpList P ops Q rest (a.put o.dst (.slice p (k - i) c)) w) : wpList P ops Q (o :: rest) a w := by
  obtain ⟨p, c, hv⟩ := h0.shape
  subst hv
  have hnc : n ≤ c := by obtain ⟨_, _, e, _, h, _⟩ := h0; cases e; exact h
  have hr := exec_fromTo hE w p n c i k hi (by omega) s x y ho hs hx hy
  have hR := h0.fromTo i k hi hk
  obtain ⟨p2, c2, hs2⟩ := hR.shape
  rw [hs2] at hr hR
  refine BigFrame.wpList_want hgd fun K hK => ?_
  unfold Oper.wp
  rw [hr]
  exact hK _ _ (h _ _ hR)
end Go.Proofs.Yteiffpninifjlaa

end

section
/- Layer 2: Get. -/
set_option linter.unusedVariables false
namespace Go.Proofs.Yteiffpninifjlaa
open Go Go.RowKit

set_option maxHeartbeats 400000 in
theorem get_arg (v : Value) (l : List Nat) (o : Int) (w : World) (h : Rd w 1 v l.length (u8s l)) (ho : o < 0 ∨ (l.length : Int) < o) :
    Calls Try.prog 64 #[v, .int .i64 o] w fun e w' => e = .returned (.tuple #[.int .u64 0, .int .i64 0, .int .i64 2]) ∧ w = w' := by
  obtain ⟨p, c, hv⟩ := h.shape
  subst hv
  clear h
  by_cases hneg : o < 0
  · clear ho
    go_enter Try.func64, Try.ntmps64
    go_wp2_with fail
    go_ret3
    exact ⟨rfl, rfl⟩
  · have ho' : (l.length : Int) < o := by omega
    clear ho
    go_enter Try.func64, Try.ntmps64
    go_wp2_with fail
    go_ret3
    exact ⟨rfl, rfl⟩

set_option maxHeartbeats 400000 in
theorem get_in (v : Value) (l : List Nat) (o : Nat) (w : World) (h : Rd w 1 v l.length (u8s l)) (ho : o ≤ l.length) (hl : ∀ c ∈ l, c < 256) :
    Calls Try.prog 64 #[v, .int .i64 (o : Int)] w fun e w' => e = .returned (.tuple #[.int .u64 ((readAt l o).1 : Int), .int .i64 (readAt l o).2.1, .int .i64 ((readAt l o).2.2 : Int)]) ∧ w = w' := by
  obtain ⟨p, c, hv⟩ := h.shape
  subst hv
  have hle : ¬ (l.length : Int) < (o : Int) := by omega
  have H := Lib.hid h; clear h
  go_enter Try.func64, Try.ntmps64
  go_wp2_with (refine wpList_from Try.elemU8 _ _ _ o _ H.out ho rfl _ _ rfl rfl rfl ?_; intro p2 c2 h2)
  have H2 : Hid (Rd w 1 (.slice p2 (l.length - o) c2) (l.drop o).length (u8s (l.drop o))) := by
    show Rd _ _ _ _ _
    rw [List.length_drop]
    simpa [u8s, List.map_drop] using h2
  have HM : Hid (∀ c ∈ l.drop o, c < 256) := fun c hc => hl c (List.mem_of_mem_drop hc)
  have HR : Hid (∀ a n e, readFrom (l.drop o) 0 0 = (a, n, e) → readAt l o = (a, (if e = 0 then (o : Int) + n else 0), e)) := fun a n e h => readAt_in ho h
  have hom : o + (l.drop o).length ≤ maxLen := by have := H.out.le; rw [List.length_drop]; omega
  have hml : l.length - o = (l.drop o).length := by simp
  rw [hml] at H2 ⊢
  clear h2 hl H hml
  generalize l.drop o = d at *
  go_loop [7, 22] (fun x i => ∃ (k y : Nat), i = .int .i64 (k : Int) ∧ x = .int .u64 (y : Int) ∧ k ≤ d.length ∧ k ≤ 9 ∧ y < 2 ^ (7 * k) ∧ Hid (readFrom d 0 0 = readFrom (d.drop k) k y)) (fun _ i => d.length - (intOf i).toNat)
  case atStart => exact ⟨0, 0, rfl, rfl, by omega, by omega, by simp, rfl⟩
  case round =>
    obtain ⟨k, y, rfl, rfl, hk, hk9, hy, hrf⟩ := hrel
    by_cases hlt : k < d.length
    · have hlt' : (k : Int) < (d.length : Int) := by omega
      obtain ⟨b, off, c', e, _, _, hc⟩ := H2.out.at (fun e => by have := congrArg List.length e; rw [u8s_length] at this; simp at this; subst this; simp at hlt)
      simp only [Value.slice.injEq] at e
      obtain ⟨rfl, _, rfl⟩ := e
      obtain ⟨u, hu⟩ : ∃ u, d[k] = u := ⟨_, rfl⟩
      have hcell : w.cell? ⟨b, off + k, none⟩ = some (.int .u8 (u : Int)) := by rw [← hu]; exact hc k _ (u8s_get _ k hlt)
      have hu256 : u < 256 := hu ▸ HM.out _ (List.getElem_mem hlt)
      have hdrop : d.drop k = u :: d.drop (k + 1) := by rw [← hu]; exact List.drop_eq_getElem_cons hlt
      have HF : Hid (readFrom d 0 0 = readFrom (u :: d.drop (k + 1)) k y) := by show _ = _; rw [← hdrop]; exact hrf.out
      clear hc hdrop hrf hu
      by_cases h9 : k = 9 ∧ 1 < u
      · obtain ⟨rfl, h1⟩ := h9
        have h1' : (1 : Int) < (u : Int) := by omega
        have HA := Lib.hid (HR.out 0 0 6 (by rw [HF.out, readFrom, if_pos ⟨rfl, h1⟩]))
        go_wp2
        go_ret3
        exact ⟨by rw [HA.out]; rfl, rfl⟩
      · have HY := Lib.hid hy
        clear hy
        by_cases hk9' : k = 9
        · subst hk9'
          have h1 : ¬ (1 : Int) < (u : Int) := by omega
          by_cases hu0 : u = 0
          · subst hu0
            have HA := Lib.hid (HR.out 0 0 5 (by rw [HF.out, readFrom, if_neg (by omega), if_neg (by omega), if_pos (by omega)]))
            go_wp2
            go_ret3
            exact ⟨by rw [HA.out]; rfl, rfl⟩
          · obtain rfl : u = 1 := by omega
            have HA := Lib.hid (HR.out (y + 2 ^ (7 * 9)) 10 0 (by rw [HF.out, readFrom, if_neg (by omega), if_neg (by omega), if_neg (by omega), Nat.one_mul]))
            have HW : Hid (wrap64 (wrap64 ((o : Int) + 9) + 1) = (o : Int) + 10) := by show _ = _; unfold maxLen at hom; simp only [wrap64]; omega
            have HV := Lib.hid (or_top y HY.out)
            clear HY HF HR
            generalize 2 ^ (7 * 9) = T at HA HV
            go_wp2
            go_ret3
            exact ⟨by rw [HA.out, HV.out, HW.out, if_pos trivial]; rfl, rfl⟩
        · have hk9i : ¬ (k : Int) = 9 := by omega
          have hkb : (0 : Int) ≤ 7 * (k : Int) ∧ 7 * (k : Int) < 64 := by omega
          have HO := Lib.hid (or_shift y u k HY.out (by omega) (shift_small (by omega)))
          have HN := Lib.hid (next_small (u := u) HY.out)
          clear h9
          by_cases hbig : 128 ≤ u
          · have hbig' : (128 : Int) ≤ (u : Int) := by omega
            have HD : Hid (readFrom d 0 0 = readFrom (d.drop (k + 1)) (k + 1) (y + u % 128 * 2 ^ (7 * k))) := by show _ = _; rw [HF.out, readFrom, if_neg (by omega), if_pos hbig]
            go_wp2
            go_round
            case rel => exact ⟨k + 1, _, by go_num, by rw [HO.out], by omega, by omega, HN.out, HD⟩
            case measure => simp [intOf]; omega
          · have hbig' : ¬ (128 : Int) ≤ (u : Int) := by omega
            by_cases h0 : u = 0 ∧ 0 < k
            · obtain ⟨rfl, hk0⟩ := h0
              have hk0' : (0 : Int) < (k : Int) := by omega
              have HA := Lib.hid (HR.out 0 0 5 (by rw [HF.out, readFrom, if_neg (by omega), if_neg (by omega), if_pos ⟨rfl, hk0⟩]))
              go_wp2
              go_ret3
              exact ⟨by rw [HA.out]; rfl, rfl⟩
            · have HA := Lib.hid (HR.out (y + u * 2 ^ (7 * k)) (k + 1) 0 (by rw [HF.out, readFrom, if_neg (by omega), if_neg hbig, if_neg h0]))
              by_cases hu0 : u = 0
              · subst hu0
                obtain rfl : k = 0 := by omega
                obtain rfl : y = 0 := by simpa using HY.out
                rw [Nat.add_zero] at hcell
                have hs : (o : Int) + 1 ≤ 9223372036854775807 := by unfold maxLen at hom; omega
                go_wp2
                go_ret3
                exact ⟨by rw [HA.out]; simp; rfl, rfl⟩
              · have hu0' : ¬ (u : Int) = 0 := by omega
                have hs : (o : Int) + k + 1 ≤ 9223372036854775807 := by unfold maxLen at hom; omega
                have HU : Hid (u % 128 = u) := by show _ = _; omega
                go_wp2
                go_ret3
                exact ⟨by rw [HA.out, HO.out, HU.out]; simp; omega, rfl⟩
    · have hlt' : ¬ (k : Int) < (d.length : Int) := by omega
      have HA := Lib.hid (HR.out 0 0 3 (by rw [hrf.out, List.drop_eq_nil_of_le (by omega), readFrom]))
      go_wp2
      go_ret3
      exact ⟨by rw [HA.out]; rfl, rfl⟩

theorem readAt_arg {l : List Nat} {o : Int} (h : o < 0 ∨ (l.length : Int) < o) : readAt l o = (0, 0, 2) := by rw [readAt, if_pos h]
theorem get_any (v : Value) (l : List Nat) (o : Int) (w : World) (h : Rd w 1 v l.length (u8s l)) (hl : ∀ c ∈ l, c < 256) :
    Calls Try.prog 64 #[v, .int .i64 o] w fun e w' => e = .returned (.tuple #[.int .u64 ((readAt l o).1 : Int), .int .i64 (readAt l o).2.1, .int .i64 ((readAt l o).2.2 : Int)]) ∧ w = w' := by
  by_cases ho : o < 0 ∨ (l.length : Int) < o
  · rw [readAt_arg ho]
    exact get_arg v l o w h ho
  · obtain ⟨k, rfl⟩ : ∃ k : Nat, o = k := ⟨o.toNat, by omega⟩
    exact get_in v l k w h (by omega) hl

theorem readAt_lt {l : List Nat} (hl : ∀ c ∈ l, c < 256) (o : Int) : (readAt l o).1 < 18446744073709551616 := by
  rw [readAt]
  split
  · decide
  · exact readFrom_lt (fun c hc => hl c (List.mem_of_mem_drop hc))

end Go.Proofs.Yteiffpninifjlaa

end

section
/- Layer 4: getUint. -/
set_option linter.unusedVariables false
set_option maxRecDepth 20000
namespace Go.Proofs.Yteiffpninifjlaa
open Go Go.RowKit

set_option maxHeartbeats 400000 in
theorem get_uint (v : Value) (B : List Nat) (a most : Nat) (w : World) (h : Rd w 1 v B.length (u8s B)) (hB : ∀ c ∈ B, c < 256) (ha : a ≤ B.length) :
    Calls Try.prog 55 #[v, .int .i64 (a : Int), .int .u64 (most : Int)] w fun en w' => en = .returned (Tup (outUint B a most) (fun c => .int .u64 (c : Int)) (.int .u64 0)) ∧ w' = w := by
  obtain ⟨p, c, hv⟩ := h.shape
  subst hv
  have hcs := outUint_cases hB ha most
  have HG := Lib.hid (calls_flip (get_any (.slice p B.length c) B (a : Int) w h hB))
  clear h hB
  go_enter Try.func55, Try.ntmps55
  go_wp2_with fail
  refine HG.out.mono ?_
  rintro en w1 ⟨rfl, rfl⟩
  rcases hcs with ⟨e, he, hr, ho⟩ | ⟨x, to, hr, hto, htl, hx, ho⟩
  · rw [hr]
    have HO := Lib.hid ho
    have heb : ((e : Int) == 0) = false := by rw [beq_eq_false_iff_ne]; omega
    clear hr ho HG
    go_wp2_with fail
    go_ret3
    exact ⟨by rw [HO.out]; rfl, rfl⟩
  · rw [hr]
    have HO := Lib.hid ho
    clear hr ho HG
    by_cases hlt : most < x
    · have hlt' : (most : Int) < (x : Int) := by omega
      rw [if_pos hlt] at HO
      go_wp2_with fail
      go_ret3
      exact ⟨by rw [HO.out]; rfl, rfl⟩
    · have hlt' : ¬ (most : Int) < (x : Int) := by omega
      rw [if_neg hlt] at HO
      go_wp2_with fail
      go_ret3
      exact ⟨by rw [HO.out]; rfl, rfl⟩
end Go.Proofs.Yteiffpninifjlaa

end

section
/- Layer 4: read of a number. -/
set_option linter.unusedVariables false
set_option maxRecDepth 20000
namespace Go.Proofs.Yteiffpninifjlaa
open Go Go.RowKit

theorem lit_uint (v : Value) (B : List Nat) (a most : Nat) (x : Nat) (w : World) (h : Rd w 1 v B.length (u8s B)) (hB : ∀ c ∈ B, c < 256) (ha : a ≤ B.length) (hx : w.cell? ⟨x, 0, none⟩ = some (.int .u64 (most : Int))) :
    Calls Try.prog 54 #[v, .int .i64 (a : Int), .pointer (some ⟨x, 0, none⟩)] w fun en w' => en = .returned (Tup (outUint B a most) (fun c => .int .u64 (c : Int)) (.int .u64 0)) ∧ w' = w := by
  have HG := Lib.hid (get_uint v B a most w h hB ha)
  obtain ⟨p, c, hv⟩ := h.shape
  subst hv
  clear h hB
  generalize outUint B a most = o at *
  cases o with
  | bad e =>
    go_enter Try.func54, Try.ntmps54
    go_wp2_with fail
    refine HG.out.mono ?_
    rintro en w1 ⟨rfl, rfl⟩
    unfold Tup
    go_wp2_with fail
    go_ret3
    exact ⟨rfl, rfl⟩
  | ok y b =>
    go_enter Try.func54, Try.ntmps54
    go_wp2_with fail
    refine HG.out.mono ?_
    rintro en w1 ⟨rfl, rfl⟩
    unfold Tup
    go_wp2_with fail
    go_ret3
    exact ⟨rfl, rfl⟩

set_option maxHeartbeats 2000000 in
/-- 'read' of a number. -/
theorem read_uint (x : Nat) (o : Out Nat) (ho : ∀ e, o = .bad e → e ≠ 0) (q : Nat) (v : Value) (B : List Nat) (a : Nat) (w : World) (h : RRd w q v B a 0)
    (hget : ∀ n, Calls Try.prog 54 #[v, .int .i64 (a : Int), .pointer (some ⟨x, 0, none⟩)] (w.drewN n) fun en w' => en = .returned (Tup o (fun c => .int .u64 (c : Int)) (.int .u64 0)) ∧ w' = w.drewN n) :
    Calls Try.prog 53 #[.pointer (some ⟨q, 0, none⟩), .func (.func 54) #[] #[.pointer (some ⟨x, 0, none⟩)]] w fun en w' => Mods (fun k => k = q) w w' ∧ Got o (fun c => .int .u64 (c : Int)) (.int .u64 0) (fun b e => RRd w' q v B b e) a en := by
  have HE := Lib.hid (rd_err q v B a 0 w h)
  have H := Lib.hid h
  have HG := Lib.hid hget
  obtain ⟨c0, c1, c2, f1, f2⟩ := h.cells
  obtain ⟨p, c, hv⟩ := h.rd.shape
  subst hv
  clear h hget
  cases o with
  | bad e =>
    have he : e ≠ 0 := ho e rfl
    have heb : ((e : Int) == 0) = false := by rw [beq_eq_false_iff_ne]; omega
    unfold Tup at HG
    clear ho
    go_enter Try.func53, Try.ntmps53
    go_wp2_with fail
    refine HE.out.mono ?_
    rintro en w1 ⟨rfl, rfl⟩
    clear HE
    go_wp2_with fail
    go_quiet ((go_at_call 54; exact Calls.quiet_of_same (HG.out _)))
    have H1 := Lib.hid (H.out.drewN nq)
    have HM1 : Hid (Mods (fun k => k = q) w1 (w1.drewN nq)) := Mods.drewN _ _ _
    generalize w1.drewN nq = w2 at *
    clear HG H c0 c1 c2 f1 f2
    go_wp2_with fail
    refine (rd_fail q _ B a 0 (e : Int) _ H1.out).mono ?_
    rintro en w3 ⟨rfl, hR, hm⟩
    rw [if_pos rfl] at hR
    have HM := Lib.hid (HM1.out.trans hm (fun _ _ e => e))
    have HR := Lib.hid hR
    clear hR hm
    go_wp2_with fail
    go_ret
    exact ⟨HM.out, rfl, HR.out⟩
  | ok y b =>
    unfold Tup at HG
    clear ho
    go_enter Try.func53, Try.ntmps53
    go_wp2_with fail
    refine HE.out.mono ?_
    rintro en w1 ⟨rfl, rfl⟩
    clear HE
    go_wp2_with fail
    go_quiet ((go_at_call 54; exact Calls.quiet_of_same (HG.out _)))
    have H1 := Lib.hid (H.out.drewN nq)
    have HM1 : Hid (Mods (fun k => k = q) w1 (w1.drewN nq)) := Mods.drewN _ _ _
    obtain ⟨m0, m1, m2, g1, g2⟩ := H1.out.cells
    generalize w1.drewN nq = w2 at *
    clear HG H c0 c1 c2 f1 f2
    have HS := Lib.hid (H1.out.setAt b)
    have HSM : Hid (Mods (fun k => k = q) w1 (w2.setCell ⟨q, 1, none⟩ (.int .i64 (b : Int)))) := HM1.out.trans (mods_set _ q 1 _) (fun _ _ e => e)
    go_wp2_with fail
    go_ret
    exact ⟨HSM.out, rfl, HS.out⟩

theorem read_uint_err (g : Value) (q : Nat) (v : Value) (B : List Nat) (a : Nat) (e : Int) (he : e ≠ 0) (w : World) (h : RRd w q v B a e) :
    Calls Try.prog 53 #[.pointer (some ⟨q, 0, none⟩), g] w fun en w' => en = .returned (.int .u64 0) ∧ w' = w := by
  have HE := Lib.hid (rd_err q v B a e w h)
  have heb : (e == 0) = false := by rw [beq_eq_false_iff_ne]; exact he
  clear h
  go_enter Try.func53, Try.ntmps53
  go_wp2_with fail
  refine HE.out.mono ?_
  rintro en w1 ⟨rfl, rfl⟩
  go_wp2_with fail
  go_ret
  exact ⟨rfl, rfl⟩

theorem read_uint_nil (g : Value) (w : World) :
    Calls Try.prog 53 #[.pointer none, g] w fun en w' => en = .returned (.int .u64 0) ∧ w' = w := by
  have HE := Lib.hid (nil_err w)
  go_enter Try.func53, Try.ntmps53
  go_wp2_with fail
  refine HE.out.mono ?_
  rintro en w1 ⟨rfl, rfl⟩
  go_wp2_with fail
  go_ret
  exact ⟨rfl, rfl⟩
end Go.Proofs.Yteiffpninifjlaa

end

section
/- Layer 4: what a reader gives: no error is 0. No program in sight. -/
set_option linter.unusedVariables false
namespace Go.Proofs.Yteiffpninifjlaa
open Go Go.RowKit


theorem outByte_ne {B : List Nat} {a e : Nat} (h : outByte B a = .bad e) : e ≠ 0 := by
  rw [outByte] at h
  split at h
  · cases h
  · cases h; decide

theorem outUint_ne {B : List Nat} {a most e : Nat} (h : outUint B a most = .bad e) : e ≠ 0 := by
  rw [outUint] at h
  split at h
  · split at h
    · cases h; decide
    · cases h
  · cases h; omega

theorem outTake_ne {B : List Nat} {a : Nat} {n : Int} {e : Nat} (h : outTake B a n = .bad e) : e ≠ 0 := by
  rw [outTake] at h
  split at h
  · cases h; decide
  · split at h
    · cases h; decide
    · cases h

theorem outString_ne {B : List Nat} {a : Nat} {n : Int} {e : Nat} (h : outString B a n = .bad e) : e ≠ 0 := by
  rw [outString] at h
  split at h
  · split at h
    · cases h; decide
    · split at h
      · cases h; decide
      · cases h
  · cases h; omega

theorem outSection_ne {B : List Nat} {a id e : Nat} (h : outSection B a id = .bad e) : e ≠ 0 := by
  rw [outSection] at h
  split at h
  · cases h; decide
  · split at h
    · cases h; decide
    · split at h
      · split at h
        · cases h; decide
        · split at h
          · cases h
          · cases h; decide
      · cases h; omega
end Go.Proofs.Yteiffpninifjlaa

end

section
/- Layer 4: Uint. -/
set_option linter.unusedVariables false
set_option maxRecDepth 20000
namespace Go.Proofs.Yteiffpninifjlaa
open Go Go.RowKit

set_option maxHeartbeats 1000000 in
theorem rd_uint (q : Nat) (v : Value) (B : List Nat) (a : Nat) (most : Nat) (w : World) (h : RRd w q v B a 0) (hB : ∀ c ∈ B, c < 256) (ha : a ≤ B.length) (hz : B.length ≤ 140737488355000) :
    Calls Try.prog 35 #[.pointer (some ⟨q, 0, none⟩), .int .u64 (most : Int)] w fun en w' => Mods (fun k => k = q) w w' ∧ Got (outUint B a most) (fun c => .int .u64 (c : Int)) (.int .u64 0) (fun b e => RRd w' q v B b e) a en := by
  have HB0 : Hid (Below w.heap.size w (w.alloc (.cells #[.int .u64 (most : Int)] 52))) := (Below.refl _ _).alloc (Nat.le_refl _) _
  have HR0 := Lib.hid (h.below HB0.out)
  have hsz : (w.alloc (.cells #[.int .u64 (most : Int)] 52)).heap.size = w.heap.size + 1 := by simp
  have HC : Hid ((w.alloc (.cells #[.int .u64 (most : Int)] 52)).cell? ⟨w.heap.size, 0, none⟩ = some (.int .u64 (most : Int))) := (Blk.new w _ _).cell 0
  have HG := Lib.hid (read_uint w.heap.size (outUint B a most) (fun _ => outUint_ne) q v B a _ HR0.out (fun n => lit_uint v B a most w.heap.size _ (HR0.out.drewN n).rd hB ha HC.out))
  have HM0 : Hid (Mods (fun k => k = q) w (w.alloc (.cells #[.int .u64 (most : Int)] 52))) := Mods.of_below HB0.out _
  have HS0 := Lib.hid hsz
  clear h hB HC hsz
  cases ho : outUint B a most with
  | bad e =>
    rw [ho] at HG
    clear ho
    go_enter Try.func35, Try.ntmps35
    go_wp2_with fail
    refine HG.out.mono ?_
    rintro en w1 ⟨hM, rfl, hR⟩
    have HM := Lib.hid (HM0.out.trans hM (fun _ _ e => e))
    have HR := Lib.hid hR
    clear hM hR HG
    go_wp2_with fail
    go_ret
    exact ⟨HM.out, rfl, HR.out⟩
  | ok y b =>
    rw [ho] at HG
    clear ho
    go_enter Try.func35, Try.ntmps35
    go_wp2_with fail
    refine HG.out.mono ?_
    rintro en w1 ⟨hM, rfl, hR⟩
    have HM := Lib.hid (HM0.out.trans hM (fun _ _ e => e))
    have HR := Lib.hid hR
    clear hM hR HG
    go_wp2_with fail
    go_ret
    exact ⟨HM.out, rfl, HR.out⟩

theorem rd_uint_err (q : Nat) (v : Value) (B : List Nat) (a : Nat) (most : Nat) (e : Int) (he : e ≠ 0) (w : World) (h : RRd w q v B a e) :
    Calls Try.prog 35 #[.pointer (some ⟨q, 0, none⟩), .int .u64 (most : Int)] w fun en w' => en = .returned (.int .u64 0) ∧ Below w.heap.size w w' := by
  have HB0 : Hid (Below w.heap.size w (w.alloc (.cells #[.int .u64 (most : Int)] 52))) := (Below.refl _ _).alloc (Nat.le_refl _) _
  have HG := Lib.hid (read_uint_err (.func (.func 54) #[] #[.pointer (some ⟨w.heap.size, 0, none⟩)]) q v B a e he _ (h.below HB0.out))
  clear h
  go_enter Try.func35, Try.ntmps35
  go_wp2_with fail
  refine HG.out.mono ?_
  rintro en w1 ⟨rfl, rfl⟩
  go_wp2_with fail
  go_ret
  exact ⟨rfl, HB0.out⟩

theorem nil_uint (most : Nat) (w : World) : Calls Try.prog 35 #[.pointer none, .int .u64 (most : Int)] w fun en w' => en = .returned (.int .u64 0) ∧ Below w.heap.size w w' := by
  have HB0 : Hid (Below w.heap.size w (w.alloc (.cells #[.int .u64 (most : Int)] 52))) := (Below.refl _ _).alloc (Nat.le_refl _) _
  have HG := Lib.hid (read_uint_nil (.func (.func 54) #[] #[.pointer (some ⟨w.heap.size, 0, none⟩)]) (w.alloc (.cells #[.int .u64 (most : Int)] 52)))
  go_enter Try.func35, Try.ntmps35
  go_wp2_with fail
  refine HG.out.mono ?_
  rintro en w1 ⟨rfl, rfl⟩
  go_wp2_with fail
  go_ret
  exact ⟨rfl, HB0.out⟩
end Go.Proofs.Yteiffpninifjlaa

end
