/- AppSecA, LtA, RdBlk, LtB, WireB, FromTo, WireTup, WireGy, WireEy, WireNe, WireFy, WireGb, VarintGet, BytesClone, in one text. -/
import Derived.Test.YtlgphgipfjlbfaaDoorMrg1
import Derived.Test.YtlgphgipfjlbfaaDoorMrg6
import Derived.Test.YtlgphgipfjlbfaaDoorMrg10
import Derived.Test.YtlgphgipfjlbfaaDoorMrg4
import Derived.Test.YtlgphgipfjlbfaaDoorMrg3
import Derived.Test.YtlgphgipfjlbfaaDoorMrg5
import Derived.Test.YtlgphgipfjlbfaaDoorMrg8

section
/- Layer 4: AppendSection, to bytes of the call's own or to a full row that is read. -/
set_option linter.unusedVariables false
namespace Go.Proofs.YtlgphgipfjlbfaaDoor
open Go Go.RowKit

set_option maxHeartbeats 1000000 in
theorem append_sectionA (w0 : World) (v : Value) (l : List Nat) (id : Nat) (d : Value) (D : List Nat) (w : World) (hT : Tab w) (h : AppB w0 w l v) (hid : id < 256) (hD : Rd w 1 d D.length (u8s D)) (hlt : ∀ c ∈ D, c < 256) (hn : l.length + D.length ≤ 140737488354000) :
    Calls Tryd.prog 32 #[v, .agg #[.int .u8 (id : Int), d]] w fun en w' => ∃ v', en = .returned v' ∧ OwnB w0 w' (l ++ frameOf id D) v' ∧ Mods (fun k => v.ownBlock = some k) w w' ∧ Fresh w.heap.size v v' := by
  have H := Lib.hid h
  have HD := Lib.hid hD
  have HT := Lib.hid hT
  obtain ⟨q0, c0, hv⟩ := h.shape
  subst hv
  obtain ⟨qd, cd, hv⟩ := hD.shape
  subst hv
  have hsz : (w.alloc (.cells #[.int .u8 (id : Int), .slice qd D.length cd] 66)).heap.size = w.heap.size + 1 := by simp
  have HBa : Hid (Below w.heap.size w ((w.alloc (.cells #[.int .u8 (id : Int), .slice qd D.length cd] 66)).alloc (.cells #[.int .u8 (id : Int)] 5))) := ((Below.refl _ _).alloc (Nat.le_refl _) _).alloc (by omega) _
  have HO0 : Hid (((w.alloc (.cells #[.int .u8 (id : Int), .slice qd D.length cd] 66)).alloc (.cells #[.int .u8 (id : Int)] 5)).ownsRow 0 5 1 (.slice (some ⟨w.heap.size + 1, 0, none⟩) 1 1) 1 (u8s [id])) := by
    have h : ((w.alloc (.cells #[.int .u8 (id : Int), .slice qd D.length cd] 66)).alloc (.cells #[.int .u8 (id : Int)] 5)).ownsRow 0 5 1 (.slice (some ⟨(w.alloc (.cells #[.int .u8 (id : Int), .slice qd D.length cd] 66)).heap.size, 0, none⟩) 1 1) 1 (u8s [id]) := World.ownsRow_lit (base := 0) (w.alloc (.cells #[.int .u8 (id : Int), .slice qd D.length cd] 66)) #[.int .u8 (id : Int)] 1 (Nat.zero_le _) (by simp [maxLen]) (by simp)
    rw [hsz] at h
    exact h
  have HDa := Lib.hid (HD.out.below HBa.out)
  have HTa := Lib.hid (HT.out.below HBa.out (Nat.le_refl _))
  have HM := Lib.hid hlt
  have hlen := bytesOf_length D
  have hten := groups_ten (x := D.length) (by omega)
  have HLen : Hid ((groups D.length).length ≤ 10 ∧ (bytesOf D).length = (groups D.length).length + D.length) := ⟨by omega, hlen⟩
  have hwD : IntKind.u64.wrap (D.length : Int) = (D.length : Int) := by rw [IntKind.wrap_u64]; omega
  have cI : ((w.alloc (.cells #[.int .u8 (id : Int), .slice qd D.length cd] 66)).alloc (.cells #[.int .u8 (id : Int)] 5)).cell? ⟨w.heap.size, 1, none⟩ = some (.slice qd D.length cd) := ((Blk.new w #[.int .u8 (id : Int), .slice qd D.length cd] 66).alloc _).cell 1
  have HcI := Lib.hid cI
  have HBoxLt : Hid (w.heap.size < ((w.alloc (.cells #[.int .u8 (id : Int), .slice qd D.length cd] 66)).alloc (.cells #[.int .u8 (id : Int)] 5)).heap.size) := by show _ < _; simp; omega
  clear h hD hT hsz hlt hlen hten
  go_enter Tryd.func32, Tryd.ntmps32
  go_wp2_with fail
  refine (append_any _ 1 [id] D.length (by omega) _ HO0.out (by omega)).mono ?_
  rintro e w1 ⟨r, rfl, hP⟩
  obtain ⟨p1, c1, hr⟩ := (Rd.of_owns hP.own).shape
  subst hr
  have HO1 := Lib.hid hP.own
  have HF1 : Hid (∀ k, (Value.slice p1 (1 + (groups D.length).length) c1).ownBlock = some k → w.heap.size + 1 ≤ k) := fun k hk => by
    rcases hP.fresh k hk with e | e
    · have e' : w.heap.size + 1 = k := Option.some.inj e
      omega
    · have := HBoxLt.out; omega
  have HB1 := Lib.hid (HBa.out.trans (hP.below (B := w.heap.size) HBa.out.size (fun k hk => by have e := Option.some.inj hk; simp at e; omega)))
  have HD1 := Lib.hid (HD.out.below HB1.out)
  have cX : w1.cell? ⟨w.heap.size, 1, none⟩ = some (.slice qd D.length cd) := hP.mods.cell HcI.out (fun e => by have e' : w.heap.size + 1 = w.heap.size := Option.some.inj e; omega)
  have HL1 : Hid ((1 + (groups D.length).length + D.length) * 1 ≤ 140737488355328 ∧ 1 + (groups D.length).length + D.length ≤ maxLen) := by
    show _ ∧ _
    have := HLen.out.1
    unfold maxLen
    omega
  clear hP HO0 HDa HTa cI HcI
  go_wp2_with (at_builtin; refine wpList_extend Tryd.elemU8 _ _ _ _ _ _ _ HO1.out HD1.out (u8s_oneCell _) HL1.out rfl _ _ rfl rfl rfl ?_)
  intro v2 w2 hown hmods hfr
  have eL : u8s ([id] ++ groups D.length) ++ u8s D = u8s (id :: bytesOf D) := by rw [← u8s_append, bytesOf, List.append_assoc]; rfl
  have hown : w2.ownsRow 0 5 1 v2 (1 + (groups D.length).length + D.length) (u8s (id :: bytesOf D)) := by rw [← eL]; exact hown
  have HB2 := Lib.hid (HB1.out.trans (hmods.below HB1.out.size (fun k hk e => by have := HF1.out k e; omega)))
  have HT2 := Lib.hid (HT.out.below HB2.out (Nat.le_refl _))
  have HLe : (id :: bytesOf D).length = 1 + (groups D.length).length + D.length := by rw [List.length_cons, HLen.out.2]; omega
  obtain ⟨p2, c2, hv2⟩ := (Rd.of_owns hown).shape
  subst hv2
  have HR2 : Hid (Rd w2 1 (.slice p2 (1 + (groups D.length).length + D.length) c2) (id :: bytesOf D).length (u8s (id :: bytesOf D))) := by
    show Rd _ _ _ _ _
    rw [HLe]
    exact Rd.of_owns hown
  have HLt2 : Hid (∀ z ∈ id :: bytesOf D, z < 256) := fun z hzm => by
    rcases List.mem_cons.1 hzm with rfl | h1
    · exact hid
    · exact bytesOf_lt HM.out z h1
  have HN2 : Hid ((id :: bytesOf D).length ≤ 140737488355000) := by
    show _ ≤ _
    have := HLen.out.1
    rw [HLe]
    omega
  clear hown hmods hfr eL HLe cX HO1 HF1 HL1 HD1 HBoxLt
  go_wp2_with fail
  refine (crc_append _ (id :: bytesOf D) _ HT2.out HR2.out HLt2.out HN2.out).mono ?_
  rintro e w3 ⟨r, rfl, hM⟩
  obtain ⟨p3, c3, hr⟩ := (Rd.of_owns hM.1).shape
  subst hr
  have HR3 : Hid (Rd w3 1 (.slice p3 (frameOf id D).length c3) (frameOf id D).length (u8s (frameOf id D))) := Rd.of_owns hM.1
  have HB3 := Lib.hid (HB2.out.trans (hM.2.mono HB2.out.size))
  have HA3 := Lib.hid (H.out.below HB3.out)
  have hfl := frameOf_length id D
  have HNe : Hid (frameOf id D ≠ []) := fun e => by have := congrArg List.length e; rw [hfl] at this; simp at this
  have HL3 : Hid ((l.length + (frameOf id D).length) * 1 ≤ 140737488355328 ∧ l.length + (frameOf id D).length ≤ maxLen) := by
    show _ ∧ _
    have h3 := HLen.out
    unfold maxLen
    omega
  have efr : (withCrc (id :: bytesOf D)).length = (frameOf id D).length := rfl
  rw [efr]
  clear hM HR2 HT2 HLt2 efr hfl
  go_wp2_with (at_builtin; refine wpList_extendA Tryd.elemU8 w0 _ _ _ l (frameOf id D) HA3.out HR3.out HNe.out HL3.out rfl _ _ rfl rfl rfl ?_)
  intro v4 w4 k4 m4 f4
  have HO4 := Lib.hid k4
  have HM4 : Hid (Mods (fun k => (Value.slice q0 l.length c0).ownBlock = some k) w w4) := (Mods.of_below HB3.out (fun k => (Value.slice q0 l.length c0).ownBlock = some k)).trans m4 (fun _ _ e => e)
  have HF4 : Hid (Fresh w.heap.size (.slice q0 l.length c0) v4) := fun k hk => by
    rcases f4 k hk with h | h
    · exact Or.inl h
    · have := HB3.out.size; exact Or.inr (by omega)
  clear k4 m4 f4
  go_wp2_with fail
  go_ret
  exact ⟨_, rfl, HO4.out, HM4.out, HF4.out⟩
end Go.Proofs.YtlgphgipfjlbfaaDoor

end

section
/- Layer 16: the program's contents and its frames. -/
set_option linter.unusedVariables false
set_option maxRecDepth 20000
namespace Go.Proofs.YtlgphgipfjlbfaaDoor
open Go Go.RowKit

set_option maxHeartbeats 4000000 in
theorem ly_contents (v : Value) (l : List Nat) (w : World) (h : Rd w 1 v l.length (natI l)) (h5 : l.length ≤ 5) (hb : ∀ x ∈ l, x < 9223372036854775808) :
    Calls Tryd.prog 23 #[v] w fun e w' => ∃ r, e = .returned r ∧ OwnB w w' (contents l) r := by
  have HB := Lib.hid hb
  have HL := Lib.hid h5
  have H := Lib.hid h
  have hN : (l.length : Int) ≤ 5 := by omega
  have HZ : Hid (OwnB w w (contents (l.take 0)) (.slice none 0 0)) := Own1.nil w
  obtain ⟨p, c, hv⟩ := h.shape
  subst hv
  clear h hb h5
  go_enter Tryd.func23, Tryd.ntmps23
  go_wp2_with fail
  go_loopw [3, 8] (fun vv iv wr => ∃ (i : Nat), i ≤ l.length ∧ iv = .int .i64 (i : Int) ∧ Hid (OwnB w wr (contents (l.take i)) vv)) (fun _ iv _ => l.length - (intOf iv).toNat)
  case atStart => exact ⟨0, Nat.zero_le _, rfl, HZ.out⟩
  case round =>
    obtain ⟨i, hi, rfl, HO⟩ := hrel
    clear HZ
    obtain ⟨pv, cv, hvv⟩ := HO.out.shape
    subst hvv
    by_cases hlt : i < l.length
    · have hlt' : (i : Int) < (l.length : Int) := by omega
      obtain ⟨x, hx⟩ : ∃ x, l[i]? = some x := ⟨_, List.getElem?_eq_getElem hlt⟩
      obtain ⟨b, off, c', e, _, _, hc⟩ := (H.out.below HO.out.bel).at (fun e => by have := congrArg List.length e; rw [natI_length] at this; simp at this; subst this; simp at hlt)
      simp only [Value.slice.injEq] at e
      obtain ⟨rfl, _, rfl⟩ := e
      have hcell := hc i _ (natI_get hx)
      have hxb := HB.out x (List.mem_of_getElem? hx)
      have hw : IntKind.u64.wrap (x : Int) = (x : Int) := by rw [IntKind.wrap_u64]; omega
      have HSt := Lib.hid (contents_step hx)
      have HLn : Hid ((contents (l.take i)).length ≤ 50) := by
        show _ ≤ _
        have h1 := contents_length (l := l.take i) (fun y hy => by have := HB.out y (List.mem_of_mem_take hy); omega)
        have h2 : (l.take i).length ≤ i := by rw [List.length_take]; omega
        have := HL.out
        omega
      clear hx hc
      generalize contents (l.take i) = acc at *
      obtain ⟨acc2, hacc2⟩ : ∃ acc2, contents (l.take (i + 1)) = acc2 := ⟨_, rfl⟩
      have HA2 := Lib.hid hacc2
      rw [hacc2] at HSt
      clear hacc2
      have HC := Lib.hid (append_any _ _ acc x (by omega) wr HO.out.base0 (by have := HLn.out; omega))
      have hxi : (x : Int) < 9223372036854775808 := by omega
      go_wp2_with fail
      refine HC.out.mono ?_
      rintro en w2 ⟨v2, rfl, hP⟩
      have HO2 : Hid (OwnB w w2 acc2 v2) := by
        show OwnB _ _ _ _
        rw [HSt.out]
        exact HO.out.extended (e := groups x) (by have k := hP.own; rw [u8s_append] at k; exact k) hP.mods hP.fresh
      obtain ⟨p2, c2, hv2⟩ := HO2.out.shape
      subst hv2
      clear hP HC HO HSt hw hcell
      go_wp2_with fail
      go_round
      case rel => exact ⟨i + 1, by omega, by go_num, (by show OwnB _ _ _ _; rw [HA2.out]; exact HO2.out)⟩
      case measure => simp [intOf]; omega
    · have hlt' : ¬ (i : Int) < (l.length : Int) := by omega
      have HE : Hid (contents (l.take i) = contents l) := by show _ = _; rw [List.take_of_length_le (by omega)]
      go_wp2_with fail
      go_ret
      exact ⟨_, rfl, by rw [← HE.out]; exact HO.out⟩

theorem ly_frame (w0 : World) (v : Value) (L : List Nat) (id : Nat) (d : Value) (D : List Nat) (w : World) (hT : Tab w) (h : AppB w0 w L v) (hid : id < 256) (hD : Rd w 1 d D.length (u8s D)) (hlt : ∀ c ∈ D, c < 256) (hn : L.length + D.length ≤ 140737488354000) :
    Calls Tryd.prog 22 #[v, .int .i64 (id : Int), d] w fun en w' => ∃ v', en = .returned v' ∧ OwnB w0 w' (L ++ frameOf id D) v' ∧ Mods (fun k => v.ownBlock = some k) w w' ∧ Fresh w.heap.size v v' := by
  have HC := Lib.hid (append_sectionA w0 v L id d D w hT h hid hD hlt hn)
  have hw : IntKind.u8.wrap (id : Int) = (id : Int) := by rw [IntKind.wrap_u8]; omega
  obtain ⟨p, c, hv⟩ := h.shape
  subst hv
  obtain ⟨pd, cd, hv⟩ := hD.shape
  subst hv
  clear hT h hD hlt hn
  go_enter Tryd.func22, Tryd.ntmps22
  go_wp2_with fail
  refine HC.out.mono ?_
  rintro en w2 ⟨v2, rfl, k, m, f⟩
  have HK := Lib.hid k; have HM := Lib.hid m; have HF := Lib.hid f
  clear k m f HC
  go_wp2_with fail
  go_ret
  exact ⟨_, rfl, HK.out, HM.out, HF.out⟩
end Go.Proofs.YtlgphgipfjlbfaaDoor

end

section
/- A row in a block is a row that is read. No program in sight. -/
set_option linter.unusedVariables false
set_option maxRecDepth 100000
namespace Go.Proofs.YtlgphgipfjlbfaaDoor
open Go Go.RowKit


/-- A whole block, read as a slice. -/
theorem Rd.of_blk {w : World} {b n : Nat} {vs : List Value} {sz : Nat} (h : Blk w b vs) (hl : vs.length = n * sz) (hn : n ≤ maxLen) : Rd w sz (.slice (some ⟨b, 0, none⟩) n n) n vs := by
  refine ⟨_, _, rfl, hl, Nat.le_refl _, hn, (fun e => by cases e), fun ad e j u hu => ?_⟩
  cases e
  have e : (⟨b, 0, none⟩ : Addr).add j = ⟨b, j, none⟩ := by unfold Addr.add; split <;> simp_all
  rw [e, h.cell]
  exact hu
end Go.Proofs.YtlgphgipfjlbfaaDoor

end

section
/- Layer 16: the program's Assemble. -/
set_option linter.unusedVariables false
set_option maxRecDepth 20000
namespace Go.Proofs.YtlgphgipfjlbfaaDoor
open Go Go.RowKit

theorem arrO4 : Arr Tryd.prog 49 3 4 (.int .i64 0) := Arr.mk' Tryd.underlying49 (by kernel_rfl) (by kernel_rfl) Tryd.underlying3 rfl
/-- The offsets of the frames that have been written. -/
def at4 (S : List (List Nat)) (i : Nat) : List Nat := offs 1 5 (S.take i) ++ List.replicate (4 - i) 0
theorem at4_len {S : List (List Nat)} (i : Nat) (h : i ≤ S.length) (h5 : i ≤ 4) : (at4 S i).length = 4 := by rw [at4, List.length_append, offs_length, List.length_take, List.length_replicate]; omega
theorem at4_step {S : List (List Nat)} {i : Nat} {d : List Nat} (h : S[i]? = some d) (h5 : i < 4) : (at4 S i).set i (asmTo S i).length = at4 S (i + 1) := by
  have hi := (List.getElem?_eq_some_iff.1 h).1
  have e : S.take (i + 1) = S.take i ++ [d] := by rw [List.take_add_one, h]; rfl
  have hl : (offs 1 5 (S.take i)).length = i := by rw [offs_length, List.length_take]; omega
  rw [at4, at4, e, offs_snoc, asmTo_len, List.set_append_right _ _ (by omega), hl, Nat.sub_self, show 4 - i = (4 - (i + 1)) + 1 by omega, List.replicate_succ, List.set_cons_zero, List.append_assoc]
  rfl
theorem at4_four {S : List (List Nat)} (h4 : S.length = 4) : at4 S 4 = offs 1 5 S := by
  rw [at4, List.take_of_length_le (by omega)]; simp

set_option maxHeartbeats 16000000 in
theorem ly_assemble (vs : List Value) (S : List (List Nat)) (w : World) (hT : Tab w) (h : RdS w vs S) (h4 : S.length = 4) (ok : okS4 S) (hE : (asmL S).length ≤ 140737488352000) :
    Calls Tryd.prog 11 #[.agg vs.toArray] w fun e w' => ∃ r, e = .returned r ∧ OwnB w w' (asmL S) r := by
  have HT := Lib.hid hT
  have H := Lib.hid h; have H4 := Lib.hid h4; have HOk := Lib.hid ok; have HEn := Lib.hid hE
  have HL4 : Hid (vs.length = 4) := h.len.trans h4
  clear h h4 ok hE hT
  go_enter Tryd.func11, Tryd.ntmps11
  go_wp2_with (refine wpList_boxA rfl _ _ rfl vs rfl ?_)
  intro w1 hK hB hS
  have HK := Lib.hid hK; have HB1 := Lib.hid hB; have HS1 := Lib.hid hS
  obtain ⟨g, hg⟩ : ∃ g, w.heap.size = g := ⟨_, rfl⟩
  have HG := Lib.hid hg
  rw [hg] at HK HS1 ⊢
  clear hK hB hS hg
  have kc := fun (w : World) (C : Array Value) (n c : Nat) => Lib.run_convert_bytes_const (P := Tryd.prog) w 22 5 C n c Tryd.underlying22 Tryd.underlying5
  have hbA : Below w1.heap.size w1 (w1.alloc (.cells #[.int .u8 84, .int .u8 83, .int .u8 66, .int .u8 75, .int .u8 1] 5 (5, 6))) := (Below.refl _ _).alloc (Nat.le_refl _) _
  have hsz2 : (w1.alloc (.cells #[.int .u8 84, .int .u8 83, .int .u8 66, .int .u8 75, .int .u8 1] 5 (5, 6))).heap.size = w1.heap.size + 1 := by simp
  have hrd := lit_rd_mark w1 #[.int .u8 84, .int .u8 83, .int .u8 66, .int .u8 75, .int .u8 1] (5, 6) headL 5 rfl rfl (by decide)
  have HA2 : Hid (AppB w (w1.alloc (.cells #[.int .u8 84, .int .u8 83, .int .u8 66, .int .u8 75, .int .u8 1] 5 (5, 6))) headL (.slice (some ⟨w1.heap.size, 0, none⟩) 5 5)) :=
    ⟨hrd, fun k hk => by have e : w1.heap.size = k := Option.some.inj hk; have := HB1.out.size; omega, HB1.out.trans (hbA.mono HB1.out.size), Or.inr ⟨by decide, _, rfl⟩⟩
  have HK2 := Lib.hid (HK.out.of_same (hbA.block g HK.out.lt))
  have HSz2 : Hid (g < w1.heap.size ∧ (w1.alloc (.cells #[.int .u8 84, .int .u8 83, .int .u8 66, .int .u8 75, .int .u8 1] 5 (5, 6))).heap.size = w1.heap.size + 1) := ⟨HK.out.lt, hsz2⟩
  clear hbA hsz2 hrd HK HB1 HS1
  go_wp2_with (refine wpList_allocA arrO4 rfl rfl ?_)
  intro w3 hK3 hB3 hS3
  have hB3' := hB3
  rw [← HSz2.out.2] at hB3'
  have HA3 := Lib.hid (HA2.out.below hB3')
  have HK3 := Lib.hid (HK2.out.of_same (hB3'.block g HK2.out.lt))
  have HJ3 := Lib.hid hK3
  have HV3 : Hid (∀ k, (Value.slice (some ⟨w1.heap.size, 0, none⟩) 5 5).ownBlock = some k → g < k ∧ k ≠ w1.heap.size + 1) := fun k hk => by have e : w1.heap.size = k := Option.some.inj hk; have := HSz2.out.1; omega
  obtain ⟨h0, hh0⟩ : ∃ h0, w1.heap.size + 1 = h0 := ⟨_, rfl⟩
  rw [hh0] at HJ3 HV3 ⊢
  have HH : Hid (g < h0) := by show _ < _; have := HSz2.out.1; omega
  obtain ⟨lb, hlb⟩ : ∃ lb, w1.heap.size = lb := ⟨_, rfl⟩
  rw [hlb] at HA3 HV3 ⊢
  clear hK3 hB3 hB3' hS3 hh0 hlb HA2 HK2 HSz2 kc
  go_wp2_with (refine wpList_loadA arrS rfl _ rfl g rfl _ HK3.out HL4.out ?_)
  go_loopw [3, 10] (fun vv iv wr => ∃ (i : Nat), i ≤ 4 ∧ iv = .int .i64 (i : Int) ∧ Hid (AppB w wr (asmTo S i) vv) ∧ Hid (Blk wr g vs) ∧ Hid (Blk wr h0 (natI (at4 S i))) ∧ Hid (∀ k, vv.ownBlock = some k → g < k ∧ k ≠ h0)) (fun _ iv _ => 4 - (intOf iv).toNat)
  case atStart => exact ⟨0, Nat.zero_le _, rfl, HA3.out, HK3.out, HJ3.out, HV3.out⟩
  case round =>
    obtain ⟨i, hi, rfl, HA, HKr, HJr, HV⟩ := hrel
    clear HA3 HK3 HJ3 HV3
    obtain ⟨pv, cv, hvv⟩ := HA.out.shape
    subst hvv
    have him : (i : Int) ≤ 4 := by omega
    by_cases hlt : i < 4
    · have hlt' : (i : Int) < 4 := by omega
      obtain ⟨d, hd⟩ : ∃ d, S[i]? = some d := ⟨_, List.getElem?_eq_getElem (by have := H4.out; omega)⟩
      obtain ⟨p, c, hv, hr⟩ := H.out.get hd
      have HRd := Lib.hid hr
      have hvi := hv
      have HStep := Lib.hid (asmTo_step hd)
      have HAt := Lib.hid (at4_step hd hlt)
      have HLe := Lib.hid (Nat.le_trans (sec_le hd) HEn.out)
      have HOd := Lib.hid (HOk.out d (List.mem_of_getElem? hd))
      have hfl := frameOf_length (1 + i) d
      have HFl : Hid (frameOf (1 + i) d ≠ [] ∧ d.length ≤ 140737488352000) := ⟨fun e => by have := congrArg List.length e; rw [hfl] at this; simp at this, by have := HLe.out; omega⟩
      have hal := at4_len (S := S) i (by have := H4.out; omega) (by omega)
      obtain ⟨x0, hx0⟩ : ∃ x0, (at4 S i)[i]? = some x0 := ⟨_, List.getElem?_eq_getElem (by omega)⟩
      have h0c : wr.cell? ⟨h0, i, none⟩ = some (.int .i64 (x0 : Int)) := by rw [HJr.out.cell, natI_get hx0]
      have h0f : wr.frozen? ⟨h0, i, none⟩ = false := HJr.out.free i
      have HLl : Hid ((asmTo S i).length ≤ 140737488352000) := by show _ ≤ _; have := HLe.out; omega
      obtain ⟨L, hL⟩ : ∃ L, asmTo S i = L := ⟨_, rfl⟩
      rw [hL] at HA HStep HAt HLe HLl HV ⊢
      have hll : (L.length : Int) ≤ 140737488352000 := by have := HLl.out; omega
      have hM : Mods (fun k => k = h0) wr (wr.setCell ⟨h0, i, none⟩ (.int .i64 (L.length : Int))) := Mods.set _ _ _ _ (fun _ => rfl)
      have HA2 := Lib.hid (HA.out.mods hM (fun k hk => (HV.out k hk).2) (fun k hk => by have := HG.out; have := HH.out; omega))
      have HK2 := Lib.hid (hM.blk HKr.out (fun e => by have := HH.out; omega))
      have HJ2 : Hid (Blk (wr.setCell ⟨h0, i, none⟩ (.int .i64 (L.length : Int))) h0 (natI (at4 S (i + 1)))) := by
        have h := HJr.out.set i (.int .i64 (L.length : Int))
        have e : (natI (at4 S i)).set i (.int .i64 (L.length : Int)) = natI (at4 S (i + 1)) := by rw [← HAt.out]; simp [natI, List.map_set]
        rw [e] at h
        exact h
      have g0 : (wr.setCell ⟨h0, i, none⟩ (.int .i64 (L.length : Int))).cell? ⟨g, i, none⟩ = some (.slice p d.length c) := by rw [HK2.out.cell]; exact hv
      have HT2 := Lib.hid (HT.out.below HA2.out.bel (Nat.le_refl _))
      have HFr : Hid (Calls Tryd.prog 22 #[.slice pv L.length cv, .int .i64 (1 + (i : Int)), .slice p d.length c] (wr.setCell ⟨h0, i, none⟩ (.int .i64 (L.length : Int))) fun en w' => ∃ v', en = .returned v' ∧ OwnB w w' (L ++ frameOf (1 + i) d) v' ∧ Mods (fun k => (Value.slice pv L.length cv).ownBlock = some k) (wr.setCell ⟨h0, i, none⟩ (.int .i64 (L.length : Int))) w' ∧ Fresh (wr.setCell ⟨h0, i, none⟩ (.int .i64 (L.length : Int))).heap.size (.slice pv L.length cv) v') :=
        (by rw [show (1 + (i : Int)) = ((1 + i : Nat) : Int) by omega]; exact ly_frame w _ L (1 + i) _ d _ HT2.out HA2.out (by omega) (HRd.out.below HA2.out.bel) HOd.out.1 (by have h1 := HLe.out; have h2 := frameOf_length (1 + i) d; have h3 := bytesOf_length d; omega))
      clear hd hv hr hfl hal hx0 hL hM HA HKr HJr
      have HVi : Hid (vs[i]? = some (.slice p d.length c)) := hvi
      go_wp2_with (refine wpList_indexA arrS rfl _ _ rfl vs rfl i rfl hlt _ HVi.out ?_)
      generalize wr.setCell ⟨h0, i, none⟩ (.int .i64 (L.length : Int)) = w4 at *
      refine HFr.out.mono ?_
      rintro en w6 ⟨v6, rfl, k6, m6, f6⟩
      obtain ⟨L2, hL2⟩ : ∃ L2, asmTo S (i + 1) = L2 := ⟨_, rfl⟩
      have HL2 := Lib.hid hL2
      have HO6 : Hid (AppB w w6 L2 v6) := by show AppB _ _ _ _; rw [← hL2, HStep.out]; exact AppB.of k6
      have HK6 := Lib.hid (m6.blk HK2.out (fun e => by have := (HV.out g e).1; omega))
      have HJ6 := Lib.hid (m6.blk HJ2.out (fun e => (HV.out h0 e).2 rfl))
      have HV6 : Hid (∀ k, v6.ownBlock = some k → g < k ∧ k ≠ h0) := fun k hk => by
        rcases f6 k hk with e | e
        · exact HV.out k e
        · have := HK2.out.lt; have := HJ2.out.lt; omega
      obtain ⟨p6, c6, hv6⟩ := HO6.out.shape
      subst hv6
      clear k6 m6 f6 HA2 HK2 HJ2 HV HLe HFl HAt HStep hL2 HT2 HFr g0 h0c h0f
      go_wp2_with fail
      go_round
      case rel => exact ⟨i + 1, by omega, by go_num, (by show AppB _ _ _ _; rw [HL2.out]; exact HO6.out), HK6.out, HJ6.out, HV6.out⟩
      case measure => simp [intOf]; omega
    · have hlt' : ¬ (i : Int) < 4 := by omega
      have hi4 : i = 4 := by omega
      subst hi4
      have HT4 : Hid (S.take 4 = S) := List.take_of_length_le (by have := H4.out; omega)
      have hA4 := at4_four H4.out
      have hle := asmTo_le S 4
      have HEl : Hid ((bodyL S).length + 8 = (asmL S).length) := by show _ = _; rw [asmL, List.length_append, withCrc_length]; rfl
      rw [hA4] at HJr
      have ho4 : (offs 1 5 S).length = 4 := by rw [offs_length]; exact H4.out
      have HOf := Lib.hid (fun x hx => by
        have hl := asmTo_len S 4
        rw [HT4.out] at hl
        have := offs_le S 1 5 x hx; have := HEn.out; omega : ∀ x ∈ offs 1 5 S, x < 9223372036854775808)
      have HBo : Hid (bodyL S = asmTo S 4 ++ frameOf 5 (contents (offs 1 5 S))) := by show _ = _; rw [bodyL, asmTo_four H4.out]
      have HCl := Lib.hid (contents_lt (offs 1 5 S))
      obtain ⟨O, hO⟩ : ∃ O, offs 1 5 S = O := ⟨_, rfl⟩
      rw [hO] at HBo HCl HJr ho4 HOf
      have HRo : Hid (Rd wr 1 (.slice (some ⟨h0, 0, none⟩) 4 4) O.length (natI O)) := by
        show Rd _ _ _ _ _
        rw [ho4]
        exact Rd.of_blk HJr.out (by rw [natI_length, ho4]) (by unfold maxLen; omega)
      have HC := Lib.hid (ly_contents _ O wr HRo.out (by omega) HOf.out)
      obtain ⟨C, hC⟩ : ∃ C, contents O = C := ⟨_, rfl⟩
      rw [hC] at HC HBo HCl
      obtain ⟨L, hL⟩ : ∃ L, asmTo S 4 = L := ⟨_, rfl⟩
      rw [hL] at HA HBo HV ⊢
      have hfl := frameOf_length 5 C
      have HBl : Hid (L.length + (frameOf 5 C).length = (bodyL S).length ∧ (bodyL S).length + 8 ≤ 140737488352000 ∧ L.length + C.length ≤ 140737488352000) := by
        have h1 := congrArg List.length HBo.out
        rw [List.length_append] at h1
        exact ⟨h1.symm, by have := HEl.out; have := HEn.out; omega, by have := HEl.out; have := HEn.out; have := bytesOf_length C; omega⟩
      clear hle hC hL hfl hO hA4 ho4
      go_wp2_with fail
      refine HC.out.mono ?_
      rintro en w4 ⟨r4, rfl, hO⟩
      have HR4 := Lib.hid hO.rd
      have HA4 := Lib.hid (HA.out.below hO.bel)
      have HT4 := Lib.hid (HT.out.below HA4.out.bel (Nat.le_refl _))
      obtain ⟨p4, c4, hv4⟩ := hO.shape
      subst hv4
      clear hO HC HA HJr HKr HRo
      go_wp2_with fail
      refine (ly_frame w _ L 5 (.slice p4 C.length c4) C w4 HT4.out HA4.out (by decide) HR4.out HCl.out (by have := HBl.out; omega)).mono ?_
      rintro en w6 ⟨v6, rfl, k6, m6, f6⟩
      rw [← HBo.out] at k6
      have HO6 := Lib.hid k6
      obtain ⟨p6, c6, hv6⟩ := k6.shape
      subst hv6
      have HOl := Lib.hid (bodyL_lt H4.out HOk.out)
      clear k6 m6 f6 HV HBo HR4 HA4
      obtain ⟨Bd, hBd⟩ : ∃ Bd, bodyL S = Bd := ⟨_, rfl⟩
      have HAs : Hid (asmL S = withCrc Bd ++ tailL) := by show _ = _; rw [asmL, hBd]
      rw [hBd] at HO6 HOl HBl ⊢
      clear hBd
      go_wp2_with fail
      refine (crc_append _ Bd w6 (HT.out.below HO6.out.bel (Nat.le_refl _)) HO6.out.rd HOl.out (by have := HBl.out; omega)).mono ?_
      rintro en w7 ⟨r7, rfl, hMd⟩
      have HB7 : Hid (Below w.heap.size w w7) := HO6.out.bel.trans (hMd.2.mono HO6.out.bel.size)
      have HOz := Lib.hid (owns_rebase hMd.1 (base' := 0) (fun _ _ => Nat.zero_le _))
      have HLt : Hid (∀ k, r7.ownBlock = some k → w.heap.size ≤ k) := fun k hk => Nat.le_trans HO6.out.bel.size (hMd.1.lt k hk).1
      obtain ⟨p7, c7, hv7⟩ := (Rd.of_owns hMd.1).shape
      subst hv7
      have HBd : Hid (((withCrc Bd).length + (⟨#[75, 66, 83, 84]⟩ : ByteArray).size) * 1 ≤ 140737488355328 ∧ (withCrc Bd).length + (⟨#[75, 66, 83, 84]⟩ : ByteArray).size ≤ maxLen) := by
        show _ ∧ _
        have h := HBl.out
        rw [withCrc_length, show (⟨#[75, 66, 83, 84]⟩ : ByteArray).size = 4 from rfl]
        unfold maxLen; omega
      clear hMd HO6
      go_wp2_with (at_builtin; refine wpList_extendStr Tryd.elemU8 Tryd.underlying9 _ _ _ _ HOz.out ⟨#[75, 66, 83, 84]⟩ HBd.out rfl _ _ rfl rfl rfl ?_)
      intro v8 w8 hown hmods hfr
      have HO8 : Hid (OwnB w w8 (asmL S) v8) := by
        refine ⟨?_, HB7.out.trans (hmods.below HB7.out.size (fun k hk e => by have := HLt.out k e; omega))⟩
        show w8.ownsRow _ _ 1 v8 (asmL S).length (u8s (asmL S))
        rw [HAs.out, List.length_append, u8s_append]
        refine owns_rebase hown (fun k hk => ?_)
        rcases hfr k hk with e | e
        · exact HLt.out k e
        · have := HB7.out.size; omega
      obtain ⟨p8, c8, hv8⟩ : ∃ p c, v8 = .slice p ((withCrc Bd).length + (⟨#[75, 66, 83, 84]⟩ : ByteArray).size) c := (Rd.of_owns hown).shape
      subst hv8
      clear hown hmods hfr HOz HBd
      go_wp2_with fail
      go_ret
      exact ⟨_, rfl, HO8.out⟩
end Go.Proofs.YtlgphgipfjlbfaaDoor

end

section
/- Layer 4: the program's reader: At, Err, End, Fail, of a reader and of nil. -/
set_option linter.unusedVariables false
set_option maxRecDepth 20000
namespace Go.Proofs.YtlgphgipfjlbfaaDoor
open Go Go.RowKit

theorem rd_at (q : Nat) (v : Value) (B : List Nat) (a : Nat) (e : Int) (w : World) (h : RRd w q v B a e) :
    Calls Tryd.prog 42 #[.pointer (some ⟨q, 0, none⟩)] w fun en w' => en = .returned (.int .i64 (a : Int)) ∧ w' = w := by
  obtain ⟨c0, c1, c2, f1, f2⟩ := h.cells
  clear h
  go_enter Tryd.func42, Tryd.ntmps42
  go_wp2
  go_ret
  exact ⟨rfl, rfl⟩
theorem nil_at (w : World) : Calls Tryd.prog 42 #[.pointer none] w fun en w' => en = .returned (.int .i64 0) ∧ w' = w := by
  go_enter Tryd.func42, Tryd.ntmps42
  go_wp2
  go_ret
  exact ⟨rfl, rfl⟩
theorem rd_err (q : Nat) (v : Value) (B : List Nat) (a : Nat) (e : Int) (w : World) (h : RRd w q v B a e) :
    Calls Tryd.prog 57 #[.pointer (some ⟨q, 0, none⟩)] w fun en w' => en = .returned (.int .i64 e) ∧ w' = w := by
  obtain ⟨c0, c1, c2, f1, f2⟩ := h.cells
  clear h
  go_enter Tryd.func57, Tryd.ntmps57
  go_wp2
  go_ret
  exact ⟨rfl, rfl⟩
theorem nil_err (w : World) : Calls Tryd.prog 57 #[.pointer none] w fun en w' => en = .returned (.int .i64 1) ∧ w' = w := by
  go_enter Tryd.func57, Tryd.ntmps57
  go_wp2
  go_ret
  exact ⟨rfl, rfl⟩
theorem rd_fail (q : Nat) (v : Value) (B : List Nat) (a : Nat) (e x : Int) (w : World) (h : RRd w q v B a e) :
    Calls Tryd.prog 51 #[.pointer (some ⟨q, 0, none⟩), .int .i64 x] w fun en w' => en = .returned (.tuple #[]) ∧ RRd w' q v B a (if e = 0 then x else e) ∧ Mods (fun k => k = q) w w' := by
  obtain ⟨c0, c1, c2, f1, f2⟩ := h.cells
  have H := Lib.hid h
  clear h
  by_cases he : e = 0
  · subst he
    go_enter Tryd.func51, Tryd.ntmps51
    go_wp2
    go_end0
    exact ⟨rfl, by simpa using H.out.setErr x, mods_set _ _ _ _⟩
  · have heb : (e == 0) = false := by rw [beq_eq_false_iff_ne]; exact he
    go_enter Tryd.func51, Tryd.ntmps51
    go_wp2
    go_end0
    exact ⟨rfl, by simpa [he] using H.out, Mods.refl _ _⟩
theorem nil_fail (x : Int) (w : World) : Calls Tryd.prog 51 #[.pointer none, .int .i64 x] w fun en w' => en = .returned (.tuple #[]) ∧ w' = w := by
  go_enter Tryd.func51, Tryd.ntmps51
  go_wp2
  go_end0
  exact ⟨rfl, rfl⟩
set_option maxHeartbeats 400000 in
theorem rd_end (q : Nat) (v : Value) (B : List Nat) (a : Nat) (e : Int) (w : World) (h : RRd w q v B a e) :
    Calls Tryd.prog 46 #[.pointer (some ⟨q, 0, none⟩)] w fun en w' => en = .returned (.int .i64 (if e = 0 ∧ a < B.length then 4 else e)) ∧ ∃ n, w' = w.drewN n := by
  have HG := Lib.hid (rd_err q v B a e w h)
  obtain ⟨c0, c1, c2, f1, f2⟩ := h.cells
  obtain ⟨p, c, hv⟩ := h.rd.shape
  subst hv
  clear h
  by_cases he : e = 0
  · subst he
    by_cases hlt : a < B.length
    · have hlt2 : (a : Int) < (B.length : Int) := by omega
      have HE : Hid ((if (0 : Int) = 0 ∧ a < B.length then (4 : Int) else 0) = 4) := if_pos ⟨rfl, hlt⟩
      rw [HE.out]
      go_enter Tryd.func46, Tryd.ntmps46
      go_wp2_with fail
      refine HG.out.mono ?_
      rintro en w1 ⟨rfl, rfl⟩
      go_wp2_with fail
      go_quiet (fail)
      go_wp2_with fail
      go_ret
      exact ⟨rfl, _, rfl⟩
    · have hlt2 : ¬ (a : Int) < (B.length : Int) := by omega
      have HE : Hid ((if (0 : Int) = 0 ∧ a < B.length then (4 : Int) else 0) = 0) := if_neg (fun h => hlt h.2)
      rw [HE.out]
      go_enter Tryd.func46, Tryd.ntmps46
      go_wp2_with fail
      refine HG.out.mono ?_
      rintro en w1 ⟨rfl, rfl⟩
      go_wp2_with fail
      go_quiet (fail)
      go_wp2_with fail
      go_ret
      exact ⟨rfl, _, rfl⟩
  · have HE : Hid ((if e = 0 ∧ a < B.length then (4 : Int) else e) = e) := if_neg (fun h => he h.1)
    rw [HE.out]
    have heb : (e == 0) = false := by rw [beq_eq_false_iff_ne]; exact he
    go_enter Tryd.func46, Tryd.ntmps46
    go_wp2_with fail
    refine HG.out.mono ?_
    rintro en w1 ⟨rfl, rfl⟩
    go_wp2_with fail
    go_ret
    exact ⟨rfl, 0, rfl⟩
theorem nil_end (w : World) : Calls Tryd.prog 46 #[.pointer none] w fun en w' => en = .returned (.int .i64 1) ∧ w' = w := by
  have HG := Lib.hid (nil_err w)
  go_enter Tryd.func46, Tryd.ntmps46
  go_wp2_with fail
  refine HG.out.mono ?_
  rintro en w1 ⟨rfl, rfl⟩
  go_wp2_with fail
  go_ret
  exact ⟨rfl, rfl⟩
end Go.Proofs.YtlgphgipfjlbfaaDoor

end

section
/- A slice between two bounds. No program in sight. -/
set_option linter.unusedVariables false
namespace Go.Proofs.YtlgphgipfjlbfaaDoor
open Go Go.RowKit

/-- 's[i:k]'. -/
theorem wpList_fromTo {P : Program} {t e : TypeId} {sz bytes : Nat} (hE : Elem P t e sz bytes) (w : World) (v : Value) (n i k : Nat) (vs : List Value) (h0 : Rd w sz v n vs) (hi : i ≤ k) (hk : k ≤ n)
    {ops : Array Oper} {rest : List Oper} {o : Oper} {a : Act} {Q : Exit → Act → World → Prop} (hgd : Region.wanted o (yielded ops a.tmps) = true) (s x y : Operand) (ho : o.op = .slice t s (some x) (some y) none)
    (hs : a.eval s = v) (hx : a.eval x = .int .i64 (i : Int)) (hy : a.eval y = .int .i64 (k : Int))
    (h : ∀ p c, Rd w sz (.slice p (k - i) c) (k - i) ((vs.take (k * sz)).drop (i * sz)) → wpList P ops Q rest (a.put o.dst (.slice p (k - i) c)) w) : wpList P ops Q (o :: rest) a w := by
  obtain ⟨p, c, hv⟩ := h0.shape
  subst hv
  have hnc : n ≤ c := by obtain ⟨_, _, e, _, h, _⟩ := h0; cases e; exact h
  have hr := exec_fromTo hE w p n c i k hi (by omega) s x y ho hs hx hy
  have hR := h0.fromTo i k hi hk
  obtain ⟨p2, c2, hs2⟩ := hR.shape
  rw [hs2] at hr hR
  refine BigFrame.wpList_want hgd fun K hK => ?_
  unfold Oper.wp
  rw [hr]
  exact hK _ _ (h _ _ hR)
end Go.Proofs.YtlgphgipfjlbfaaDoor

end

section
/- Layer 4: what a function that reads at an offset gives back; a slice between two bounds. -/
set_option linter.unusedVariables false
namespace Go.Proofs.YtlgphgipfjlbfaaDoor
open Go Go.RowKit


/-- What a function that reads at an offset gives back: a value, the offset behind it and OK, or zeros and the error. -/
def Tup {α : Type} (o : Out α) (val : α → Value) (z : Value) : Value := match o with
  | .ok x b => .tuple #[val x, .int .i64 (b : Int), .int .i64 0]
  | .bad e => .tuple #[z, .int .i64 0, .int .i64 (e : Int)]

end Go.Proofs.YtlgphgipfjlbfaaDoor

end

section
/- Layer 4: getByte. -/
set_option linter.unusedVariables false
set_option maxRecDepth 20000
namespace Go.Proofs.YtlgphgipfjlbfaaDoor
open Go Go.RowKit

theorem get_byte (v : Value) (B : List Nat) (a : Nat) (w : World) (h : Rd w 1 v B.length (u8s B)) (ha : a ≤ B.length) (hz : B.length ≤ 140737488355000) :
    Calls Tryd.prog 62 #[v, .int .i64 (a : Int)] w fun en w' => en = .returned (Tup (outByte B a) (fun c => .int .u8 (c : Int)) (.int .u8 0)) ∧ w' = w := by
  by_cases hlt : a < B.length
  · obtain ⟨b, off, c, hv, _, _, hc⟩ := h.at (fun e => by have := congrArg List.length e; rw [u8s_length] at this; simp at this; subst this; simp at hlt)
    subst hv
    have hcell := hc a _ (u8s_get _ _ hlt)
    have HO : Hid (outByte B a = .ok B[a] (a + 1)) := by show _ = _; rw [outByte, List.getElem?_eq_getElem hlt]
    have hne : ¬ (a : Int) = (B.length : Int) := by omega
    have hlt2 : (a : Int) < (B.length : Int) := by omega
    have hmax2 : (B.length : Int) ≤ 9223372036854775807 := by omega
    have HA : Hid ((a : Int) + 1 = ((a + 1 : Nat) : Int)) := by show _ = _; omega
    clear h hc hz ha
    generalize B[a] = x at *
    go_enter Tryd.func62, Tryd.ntmps62
    go_wp2_with fail
    go_ret3
    exact ⟨by rw [HO.out]; show _ = Ending.returned (Value.tuple #[.int .u8 (x : Int), .int .i64 ((a + 1 : Nat) : Int), .int .i64 0]); rw [HA.out]; rfl, rfl⟩
  · obtain ⟨p, c, hv⟩ := h.shape
    subst hv
    have HO : Hid (outByte B a = .bad 3) := by show _ = _; rw [outByte, List.getElem?_eq_none (by omega)]
    obtain rfl : a = B.length := by omega
    clear h hz ha hlt
    go_enter Tryd.func62, Tryd.ntmps62
    go_wp2_with fail
    go_ret3
    exact ⟨by rw [HO.out]; rfl, rfl⟩
end Go.Proofs.YtlgphgipfjlbfaaDoor

end

section
/- Layer 4: read of a byte. -/
set_option linter.unusedVariables false
namespace Go.Proofs.YtlgphgipfjlbfaaDoor
open Go Go.RowKit

set_option maxHeartbeats 2000000 in
/-- 'read' of a byte. -/
theorem read_byte (o : Out Nat) (ho : ∀ e, o = .bad e → e ≠ 0) (q : Nat) (v : Value) (B : List Nat) (a : Nat) (w : World) (h : RRd w q v B a 0)
    (hget : ∀ n, Calls Tryd.prog 62 #[v, .int .i64 (a : Int)] (w.drewN n) fun en w' => en = .returned (Tup o (fun c => .int .u8 (c : Int)) (.int .u8 0)) ∧ w' = w.drewN n) :
    Calls Tryd.prog 61 #[.pointer (some ⟨q, 0, none⟩), .func (.func 62) #[] #[]] w fun en w' => Mods (fun k => k = q) w w' ∧ Got o (fun c => .int .u8 (c : Int)) (.int .u8 0) (fun b e => RRd w' q v B b e) a en := by
  have HE := Lib.hid (rd_err q v B a 0 w h)
  have H := Lib.hid h
  have HG := Lib.hid hget
  obtain ⟨c0, c1, c2, f1, f2⟩ := h.cells
  obtain ⟨p, c, hv⟩ := h.rd.shape
  subst hv
  clear h hget
  cases o with
  | bad e =>
    have he : e ≠ 0 := ho e rfl
    have heb : ((e : Int) == 0) = false := by rw [beq_eq_false_iff_ne]; omega
    unfold Tup at HG
    clear ho
    go_enter Tryd.func61, Tryd.ntmps61
    go_wp2_with fail
    refine HE.out.mono ?_
    rintro en w1 ⟨rfl, rfl⟩
    clear HE
    go_wp2_with fail
    go_quiet ((go_at_call 62; exact Calls.quiet_of_same (HG.out _)))
    have H1 := Lib.hid (H.out.drewN nq)
    have HM1 : Hid (Mods (fun k => k = q) w1 (w1.drewN nq)) := Mods.drewN _ _ _
    generalize w1.drewN nq = w2 at *
    clear HG H c0 c1 c2 f1 f2
    go_wp2_with fail
    refine (rd_fail q _ B a 0 (e : Int) _ H1.out).mono ?_
    rintro en w3 ⟨rfl, hR, hm⟩
    rw [if_pos rfl] at hR
    have HM := Lib.hid (HM1.out.trans hm (fun _ _ e => e))
    have HR := Lib.hid hR
    clear hR hm
    go_wp2_with fail
    go_ret
    exact ⟨HM.out, rfl, HR.out⟩
  | ok y b =>
    unfold Tup at HG
    clear ho
    go_enter Tryd.func61, Tryd.ntmps61
    go_wp2_with fail
    refine HE.out.mono ?_
    rintro en w1 ⟨rfl, rfl⟩
    clear HE
    go_wp2_with fail
    go_quiet ((go_at_call 62; exact Calls.quiet_of_same (HG.out _)))
    have H1 := Lib.hid (H.out.drewN nq)
    have HM1 : Hid (Mods (fun k => k = q) w1 (w1.drewN nq)) := Mods.drewN _ _ _
    obtain ⟨m0, m1, m2, g1, g2⟩ := H1.out.cells
    generalize w1.drewN nq = w2 at *
    clear HG H c0 c1 c2 f1 f2
    have HS := Lib.hid (H1.out.setAt b)
    have HSM : Hid (Mods (fun k => k = q) w1 (w2.setCell ⟨q, 1, none⟩ (.int .i64 (b : Int)))) := HM1.out.trans (mods_set _ q 1 _) (fun _ _ e => e)
    go_wp2_with fail
    go_ret
    exact ⟨HSM.out, rfl, HS.out⟩

theorem read_byte_err (g : Value) (q : Nat) (v : Value) (B : List Nat) (a : Nat) (e : Int) (he : e ≠ 0) (w : World) (h : RRd w q v B a e) :
    Calls Tryd.prog 61 #[.pointer (some ⟨q, 0, none⟩), g] w fun en w' => en = .returned (.int .u8 0) ∧ w' = w := by
  have HE := Lib.hid (rd_err q v B a e w h)
  have heb : (e == 0) = false := by rw [beq_eq_false_iff_ne]; exact he
  clear h
  go_enter Tryd.func61, Tryd.ntmps61
  go_wp2_with fail
  refine HE.out.mono ?_
  rintro en w1 ⟨rfl, rfl⟩
  go_wp2_with fail
  go_ret
  exact ⟨rfl, rfl⟩

theorem read_byte_nil (g : Value) (w : World) :
    Calls Tryd.prog 61 #[.pointer none, g] w fun en w' => en = .returned (.int .u8 0) ∧ w' = w := by
  have HE := Lib.hid (nil_err w)
  go_enter Tryd.func61, Tryd.ntmps61
  go_wp2_with fail
  refine HE.out.mono ?_
  rintro en w1 ⟨rfl, rfl⟩
  go_wp2_with fail
  go_ret
  exact ⟨rfl, rfl⟩
end Go.Proofs.YtlgphgipfjlbfaaDoor

end

section
/- Layer 4: what a reader gives: no error is 0. No program in sight. -/
set_option linter.unusedVariables false
namespace Go.Proofs.YtlgphgipfjlbfaaDoor
open Go Go.RowKit


theorem outByte_ne {B : List Nat} {a e : Nat} (h : outByte B a = .bad e) : e ≠ 0 := by
  rw [outByte] at h
  split at h
  · cases h
  · cases h; decide

theorem outUint_ne {B : List Nat} {a most e : Nat} (h : outUint B a most = .bad e) : e ≠ 0 := by
  rw [outUint] at h
  split at h
  · split at h
    · cases h; decide
    · cases h
  · cases h; omega

theorem outTake_ne {B : List Nat} {a : Nat} {n : Int} {e : Nat} (h : outTake B a n = .bad e) : e ≠ 0 := by
  rw [outTake] at h
  split at h
  · cases h; decide
  · split at h
    · cases h; decide
    · cases h

theorem outString_ne {B : List Nat} {a : Nat} {n : Int} {e : Nat} (h : outString B a n = .bad e) : e ≠ 0 := by
  rw [outString] at h
  split at h
  · split at h
    · cases h; decide
    · split at h
      · cases h; decide
      · cases h
  · cases h; omega

theorem outSection_ne {B : List Nat} {a id e : Nat} (h : outSection B a id = .bad e) : e ≠ 0 := by
  rw [outSection] at h
  split at h
  · cases h; decide
  · split at h
    · cases h; decide
    · split at h
      · split at h
        · cases h; decide
        · split at h
          · cases h
          · cases h; decide
      · cases h; omega
end Go.Proofs.YtlgphgipfjlbfaaDoor

end

section
/- Layer 4: Byte. -/
set_option linter.unusedVariables false
namespace Go.Proofs.YtlgphgipfjlbfaaDoor
open Go Go.RowKit

theorem rd_byte (q : Nat) (v : Value) (B : List Nat) (a : Nat) (w : World) (h : RRd w q v B a 0) (ha : a ≤ B.length) (hz : B.length ≤ 140737488355000) :
    Calls Tryd.prog 50 #[.pointer (some ⟨q, 0, none⟩)] w fun en w' => Mods (fun k => k = q) w w' ∧ Got (outByte B a) (fun c => .int .u8 (c : Int)) (.int .u8 0) (fun b e => RRd w' q v B b e) a en := by
  have HG := Lib.hid (read_byte (outByte B a) (fun _ => outByte_ne) q v B a w h (fun n => get_byte v B a _ (h.drewN n).rd ha hz))
  clear h
  cases ho : outByte B a with
  | bad e =>
    rw [ho] at HG
    clear ho
    go_enter Tryd.func50, Tryd.ntmps50
    go_wp2_with fail
    refine HG.out.mono ?_
    rintro en w1 ⟨hM, rfl, hR⟩
    have HM := Lib.hid hM
    have HR := Lib.hid hR
    clear hM hR HG
    go_wp2_with fail
    go_ret
    exact ⟨HM.out, rfl, HR.out⟩
  | ok y b =>
    rw [ho] at HG
    clear ho
    go_enter Tryd.func50, Tryd.ntmps50
    go_wp2_with fail
    refine HG.out.mono ?_
    rintro en w1 ⟨hM, rfl, hR⟩
    have HM := Lib.hid hM
    have HR := Lib.hid hR
    clear hM hR HG
    go_wp2_with fail
    go_ret
    exact ⟨HM.out, rfl, HR.out⟩

theorem rd_byte_err (q : Nat) (v : Value) (B : List Nat) (a : Nat) (e : Int) (he : e ≠ 0) (w : World) (h : RRd w q v B a e) :
    Calls Tryd.prog 50 #[.pointer (some ⟨q, 0, none⟩)] w fun en w' => en = .returned (.int .u8 0) ∧ w' = w := by
  have HG := Lib.hid (read_byte_err (.func (.func 62) #[] #[]) q v B a e he w h)
  clear h
  go_enter Tryd.func50, Tryd.ntmps50
  go_wp2_with fail
  refine HG.out.mono ?_
  rintro en w1 ⟨rfl, rfl⟩
  go_wp2_with fail
  go_ret
  exact ⟨rfl, rfl⟩

theorem nil_byte (w : World) : Calls Tryd.prog 50 #[.pointer none] w fun en w' => en = .returned (.int .u8 0) ∧ Below w.heap.size w w' := by
  have HG := Lib.hid (read_byte_nil (.func (.func 62) #[] #[]) w)
  go_enter Tryd.func50, Tryd.ntmps50
  go_wp2_with fail
  refine HG.out.mono ?_
  rintro en w1 ⟨rfl, rfl⟩
  go_wp2_with fail
  go_ret
  exact ⟨rfl, Below.refl _ _⟩
end Go.Proofs.YtlgphgipfjlbfaaDoor

end

section
/- Layer 4: getBytes. -/
set_option linter.unusedVariables false
set_option maxRecDepth 20000
namespace Go.Proofs.YtlgphgipfjlbfaaDoor
open Go Go.RowKit

theorem get_bytes_eof (v : Value) (B : List Nat) (a n : Nat) (w : World) (h : Rd w 1 v B.length (u8s B)) (ha : a ≤ B.length) (hz : B.length ≤ 140737488355000) (hn : B.length - a < n) :
    Calls Tryd.prog 64 #[v, .int .i64 (a : Int), .int .u64 (n : Int)] w fun en w' => en = .returned (.tuple #[.slice none 0 0, .int .i64 0, .int .i64 3]) ∧ w' = w := by
  obtain ⟨p, c, hv⟩ := h.shape
  subst hv
  have hw : IntKind.u64.wrap ((B.length : Int) - (a : Int)) = (B.length : Int) - (a : Int) := wrap_u64_small _ (by omega) (by omega)
  have hgt : (B.length : Int) - (a : Int) < (n : Int) := by omega
  clear h
  go_enter Tryd.func64, Tryd.ntmps64
  go_wp2_with fail
  go_ret3
  exact ⟨rfl, rfl⟩

theorem get_bytes_ok (v : Value) (B : List Nat) (a n : Nat) (w : World) (h : Rd w 1 v B.length (u8s B)) (ha : a ≤ B.length) (hz : B.length ≤ 140737488355000) (hn : ¬ B.length - a < n) :
    Calls Tryd.prog 64 #[v, .int .i64 (a : Int), .int .u64 (n : Int)] w fun en w' => (∃ p c, en = .returned (.tuple #[.slice p n c, .int .i64 ((a + n : Nat) : Int), .int .i64 0]) ∧ Rd w 1 (.slice p n c) n (u8s ((B.drop a).take n))) ∧ w' = w := by
  obtain ⟨p, c, hv⟩ := h.shape
  subst hv
  have hw : IntKind.u64.wrap ((B.length : Int) - (a : Int)) = (B.length : Int) - (a : Int) := wrap_u64_small _ (by omega) (by omega)
  have hgt : ¬ (B.length : Int) - (a : Int) < (n : Int) := by omega
  have hwn : IntKind.i64.wrap (n : Int) = (n : Int) := IntWalk.i64_in _ (by omega)
  obtain ⟨A, hA⟩ : ∃ A, a + n = A := ⟨_, rfl⟩
  have hA1 : (a : Int) + (n : Int) = (A : Int) := by omega
  have H := Lib.hid h
  have HAl : Hid (a ≤ A ∧ A ≤ B.length ∧ A - a = n) := by show _ ∧ _; omega
  have hAle : (A : Int) ≤ 9223372036854775807 := by omega
  clear h hn
  go_enter Tryd.func64, Tryd.ntmps64
  go_wp2_with (refine wpList_fromTo Tryd.elemU8 _ _ _ a A _ H.out HAl.out.1 HAl.out.2.1 rfl _ _ _ rfl rfl rfl rfl ?_; intro p2 c2 h2)
  have h3 := h2
  rw [HAl.out.2.2] at h3 ⊢
  have HR : Hid (Rd w 1 (.slice p2 n c2) n (u8s ((B.drop a).take n))) := by
    show Rd _ _ _ _ _
    simp only [Nat.mul_one] at h3
    rw [List.drop_take, HAl.out.2.2] at h3
    simpa [u8s, List.map_drop, List.map_take] using h3
  clear h2 h3
  go_wp2_with fail
  go_ret3
  exact ⟨⟨_, _, rfl, HR.out⟩, rfl⟩
end Go.Proofs.YtlgphgipfjlbfaaDoor

end

section
/- Layer 2: Get. -/
set_option linter.unusedVariables false
namespace Go.Proofs.YtlgphgipfjlbfaaDoor
open Go Go.RowKit

set_option maxHeartbeats 400000 in
theorem get_arg (v : Value) (l : List Nat) (o : Int) (w : World) (h : Rd w 1 v l.length (u8s l)) (ho : o < 0 ∨ (l.length : Int) < o) :
    Calls Tryd.prog 63 #[v, .int .i64 o] w fun e w' => e = .returned (.tuple #[.int .u64 0, .int .i64 0, .int .i64 2]) ∧ w = w' := by
  obtain ⟨p, c, hv⟩ := h.shape
  subst hv
  clear h
  by_cases hneg : o < 0
  · clear ho
    go_enter Tryd.func63, Tryd.ntmps63
    go_wp2_with fail
    go_ret3
    exact ⟨rfl, rfl⟩
  · have ho' : (l.length : Int) < o := by omega
    clear ho
    go_enter Tryd.func63, Tryd.ntmps63
    go_wp2_with fail
    go_ret3
    exact ⟨rfl, rfl⟩

set_option maxHeartbeats 400000 in
theorem get_in (v : Value) (l : List Nat) (o : Nat) (w : World) (h : Rd w 1 v l.length (u8s l)) (ho : o ≤ l.length) (hl : ∀ c ∈ l, c < 256) :
    Calls Tryd.prog 63 #[v, .int .i64 (o : Int)] w fun e w' => e = .returned (.tuple #[.int .u64 ((readAt l o).1 : Int), .int .i64 (readAt l o).2.1, .int .i64 ((readAt l o).2.2 : Int)]) ∧ w = w' := by
  obtain ⟨p, c, hv⟩ := h.shape
  subst hv
  have hle : ¬ (l.length : Int) < (o : Int) := by omega
  have H := Lib.hid h; clear h
  go_enter Tryd.func63, Tryd.ntmps63
  go_wp2_with (refine wpList_from Tryd.elemU8 _ _ _ o _ H.out ho rfl _ _ rfl rfl rfl ?_; intro p2 c2 h2)
  have H2 : Hid (Rd w 1 (.slice p2 (l.length - o) c2) (l.drop o).length (u8s (l.drop o))) := by
    show Rd _ _ _ _ _
    rw [List.length_drop]
    simpa [u8s, List.map_drop] using h2
  have HM : Hid (∀ c ∈ l.drop o, c < 256) := fun c hc => hl c (List.mem_of_mem_drop hc)
  have HR : Hid (∀ a n e, readFrom (l.drop o) 0 0 = (a, n, e) → readAt l o = (a, (if e = 0 then (o : Int) + n else 0), e)) := fun a n e h => readAt_in ho h
  have hom : o + (l.drop o).length ≤ maxLen := by have := H.out.le; rw [List.length_drop]; omega
  have hml : l.length - o = (l.drop o).length := by simp
  rw [hml] at H2 ⊢
  clear h2 hl H hml
  generalize l.drop o = d at *
  go_loop [7, 22] (fun x i => ∃ (k y : Nat), i = .int .i64 (k : Int) ∧ x = .int .u64 (y : Int) ∧ k ≤ d.length ∧ k ≤ 9 ∧ y < 2 ^ (7 * k) ∧ Hid (readFrom d 0 0 = readFrom (d.drop k) k y)) (fun _ i => d.length - (intOf i).toNat)
  case atStart => exact ⟨0, 0, rfl, rfl, by omega, by omega, by simp, rfl⟩
  case round =>
    obtain ⟨k, y, rfl, rfl, hk, hk9, hy, hrf⟩ := hrel
    by_cases hlt : k < d.length
    · have hlt' : (k : Int) < (d.length : Int) := by omega
      obtain ⟨b, off, c', e, _, _, hc⟩ := H2.out.at (fun e => by have := congrArg List.length e; rw [u8s_length] at this; simp at this; subst this; simp at hlt)
      simp only [Value.slice.injEq] at e
      obtain ⟨rfl, _, rfl⟩ := e
      obtain ⟨u, hu⟩ : ∃ u, d[k] = u := ⟨_, rfl⟩
      have hcell : w.cell? ⟨b, off + k, none⟩ = some (.int .u8 (u : Int)) := by rw [← hu]; exact hc k _ (u8s_get _ k hlt)
      have hu256 : u < 256 := hu ▸ HM.out _ (List.getElem_mem hlt)
      have hdrop : d.drop k = u :: d.drop (k + 1) := by rw [← hu]; exact List.drop_eq_getElem_cons hlt
      have HF : Hid (readFrom d 0 0 = readFrom (u :: d.drop (k + 1)) k y) := by show _ = _; rw [← hdrop]; exact hrf.out
      clear hc hdrop hrf hu
      by_cases h9 : k = 9 ∧ 1 < u
      · obtain ⟨rfl, h1⟩ := h9
        have h1' : (1 : Int) < (u : Int) := by omega
        have HA := Lib.hid (HR.out 0 0 6 (by rw [HF.out, readFrom, if_pos ⟨rfl, h1⟩]))
        go_wp2
        go_ret3
        exact ⟨by rw [HA.out]; rfl, rfl⟩
      · have HY := Lib.hid hy
        clear hy
        by_cases hk9' : k = 9
        · subst hk9'
          have h1 : ¬ (1 : Int) < (u : Int) := by omega
          by_cases hu0 : u = 0
          · subst hu0
            have HA := Lib.hid (HR.out 0 0 5 (by rw [HF.out, readFrom, if_neg (by omega), if_neg (by omega), if_pos (by omega)]))
            go_wp2
            go_ret3
            exact ⟨by rw [HA.out]; rfl, rfl⟩
          · obtain rfl : u = 1 := by omega
            have HA := Lib.hid (HR.out (y + 2 ^ (7 * 9)) 10 0 (by rw [HF.out, readFrom, if_neg (by omega), if_neg (by omega), if_neg (by omega), Nat.one_mul]))
            have HW : Hid (wrap64 (wrap64 ((o : Int) + 9) + 1) = (o : Int) + 10) := by show _ = _; unfold maxLen at hom; simp only [wrap64]; omega
            have HV := Lib.hid (or_top y HY.out)
            clear HY HF HR
            generalize 2 ^ (7 * 9) = T at HA HV
            go_wp2
            go_ret3
            exact ⟨by rw [HA.out, HV.out, HW.out, if_pos trivial]; rfl, rfl⟩
        · have hk9i : ¬ (k : Int) = 9 := by omega
          have hkb : (0 : Int) ≤ 7 * (k : Int) ∧ 7 * (k : Int) < 64 := by omega
          have HO := Lib.hid (or_shift y u k HY.out (by omega) (shift_small (by omega)))
          have HN := Lib.hid (next_small (u := u) HY.out)
          clear h9
          by_cases hbig : 128 ≤ u
          · have hbig' : (128 : Int) ≤ (u : Int) := by omega
            have HD : Hid (readFrom d 0 0 = readFrom (d.drop (k + 1)) (k + 1) (y + u % 128 * 2 ^ (7 * k))) := by show _ = _; rw [HF.out, readFrom, if_neg (by omega), if_pos hbig]
            go_wp2
            go_round
            case rel => exact ⟨k + 1, _, by go_num, by rw [HO.out], by omega, by omega, HN.out, HD⟩
            case measure => simp [intOf]; omega
          · have hbig' : ¬ (128 : Int) ≤ (u : Int) := by omega
            by_cases h0 : u = 0 ∧ 0 < k
            · obtain ⟨rfl, hk0⟩ := h0
              have hk0' : (0 : Int) < (k : Int) := by omega
              have HA := Lib.hid (HR.out 0 0 5 (by rw [HF.out, readFrom, if_neg (by omega), if_neg (by omega), if_pos ⟨rfl, hk0⟩]))
              go_wp2
              go_ret3
              exact ⟨by rw [HA.out]; rfl, rfl⟩
            · have HA := Lib.hid (HR.out (y + u * 2 ^ (7 * k)) (k + 1) 0 (by rw [HF.out, readFrom, if_neg (by omega), if_neg hbig, if_neg h0]))
              by_cases hu0 : u = 0
              · subst hu0
                obtain rfl : k = 0 := by omega
                obtain rfl : y = 0 := by simpa using HY.out
                rw [Nat.add_zero] at hcell
                have hs : (o : Int) + 1 ≤ 9223372036854775807 := by unfold maxLen at hom; omega
                go_wp2
                go_ret3
                exact ⟨by rw [HA.out]; simp; rfl, rfl⟩
              · have hu0' : ¬ (u : Int) = 0 := by omega
                have hs : (o : Int) + k + 1 ≤ 9223372036854775807 := by unfold maxLen at hom; omega
                have HU : Hid (u % 128 = u) := by show _ = _; omega
                go_wp2
                go_ret3
                exact ⟨by rw [HA.out, HO.out, HU.out]; simp; omega, rfl⟩
    · have hlt' : ¬ (k : Int) < (d.length : Int) := by omega
      have HA := Lib.hid (HR.out 0 0 3 (by rw [hrf.out, List.drop_eq_nil_of_le (by omega), readFrom]))
      go_wp2
      go_ret3
      exact ⟨by rw [HA.out]; rfl, rfl⟩

theorem readAt_arg {l : List Nat} {o : Int} (h : o < 0 ∨ (l.length : Int) < o) : readAt l o = (0, 0, 2) := by rw [readAt, if_pos h]
theorem get_any (v : Value) (l : List Nat) (o : Int) (w : World) (h : Rd w 1 v l.length (u8s l)) (hl : ∀ c ∈ l, c < 256) :
    Calls Tryd.prog 63 #[v, .int .i64 o] w fun e w' => e = .returned (.tuple #[.int .u64 ((readAt l o).1 : Int), .int .i64 (readAt l o).2.1, .int .i64 ((readAt l o).2.2 : Int)]) ∧ w = w' := by
  by_cases ho : o < 0 ∨ (l.length : Int) < o
  · rw [readAt_arg ho]
    exact get_arg v l o w h ho
  · obtain ⟨k, rfl⟩ : ∃ k : Nat, o = k := ⟨o.toNat, by omega⟩
    exact get_in v l k w h (by omega) hl

theorem readAt_lt {l : List Nat} (hl : ∀ c ∈ l, c < 256) (o : Int) : (readAt l o).1 < 18446744073709551616 := by
  rw [readAt]
  split
  · decide
  · exact readFrom_lt (fun c hc => hl c (List.mem_of_mem_drop hc))

end Go.Proofs.YtlgphgipfjlbfaaDoor

end

section
/- bytes.Clone. -/
set_option linter.unusedVariables false
namespace Go.Proofs.YtlgphgipfjlbfaaDoor
open Go Go.RowKit
set_option maxHeartbeats 400000 in
theorem bytes_clone (v : Value) (n : Nat) (vs : List Value) (w : World) (h : Rd w 1 v n vs) (h1 : ∀ u ∈ vs, u.oneCell' = true) (hn : n ≤ 140737488355328) :
    Calls Tryd.prog 20 #[v] w fun e w' => ∃ r, e = .returned r ∧ Made w w' 5 1 r n vs := by
  have hq : ∀ (w : World) (a : Option Addr) (n c n' c' : Nat), (binOp .eql 22 (.slice a n c) (.slice none n' c')).run Tryd.prog w = .ok (.bool a.isNone) w := fun w a n c n' c' => Lib.run_eql_slice_nil w _ _ a n c n' c' Tryd.underlying22
  obtain ⟨p, c, hv⟩ := h.shape
  subst hv
  cases p with
  | none =>
    obtain ⟨_, _, e, hl, _, _, hnil, _⟩ := h
    simp only [Value.slice.injEq] at e
    obtain ⟨rfl, _, rfl⟩ := e
    obtain ⟨rfl, rfl⟩ := hnil rfl
    obtain rfl : vs = [] := List.eq_nil_of_length_eq_zero (by simpa using hl)
    go_enter Tryd.func20, Tryd.ntmps20
    go_wp2
    go_ret
    exact ⟨_, rfl, World.ownsRow_nil _ _ _ _, Below.refl _ _⟩
  | some ad =>
    have hmax : n ≤ maxLen := by unfold maxLen; omega
    have HB : Hid (Below w.heap.size w (w.alloc (.cells #[] 5))) := (Below.refl _ _).alloc (Nat.le_refl _) _
    have HR := Lib.hid (h.below HB.out)
    clear h
    have HO : Hid ((w.alloc (.cells #[] 5)).ownsRow 0 5 1 (.slice (some ⟨w.heap.size, 0, none⟩) 0 0) 0 []) := World.ownsRow_lit (base := 0) w #[] 0 (Nat.zero_le _) (by simp [maxLen]) (by simp)
    have HL : Hid ((0 + n) * 1 ≤ 140737488355328 ∧ 0 + n ≤ maxLen) := by show _ ∧ _; omega
    go_enter Tryd.func20, Tryd.ntmps20
    go_wp2_with (at_builtin; refine wpList_extend Tryd.elemU8 _ _ _ _ _ _ _ HO.out HR.out h1 HL.out rfl _ _ rfl rfl rfl ?_)
    intro v' w1 hown hmods hfr
    have HM : Hid (Made w w1 5 1 v' n vs) := by
      refine ⟨?_, HB.out.trans (hmods.below HB.out.size (fun k hk e => by simp [Value.ownBlock] at e; omega))⟩
      try simp only [List.nil_append, Nat.zero_add] at hown
      exact owns_rebase hown (fun k hk => by
        rcases hfr k hk with e | e
        · simp [Value.ownBlock] at e; omega
        · have := HB.out.size; omega)
    clear hown hmods hfr
    go_wp2
    go_ret
    exact ⟨_, rfl, HM.out⟩
end Go.Proofs.YtlgphgipfjlbfaaDoor

end
