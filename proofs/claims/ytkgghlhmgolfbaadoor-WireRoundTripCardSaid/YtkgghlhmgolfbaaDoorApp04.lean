/- Layer 4: the program's appends, where AppendBytes is varint.Append followed by an append of the string. -/
import Derived.Test.YtkgghlhmgolfbaaDoorWireAp
import Derived.Test.YtkgghlhmgolfbaaDoorCrc03B
set_option linter.unusedVariables false
namespace Go.Proofs.YtkgghlhmgolfbaaDoor
open Go Go.RowKit

set_option maxHeartbeats 1000000 in
theorem append_bytes (v : Value) (n : Nat) (l : List Nat) (s : ByteArray) (w : World) (h : w.ownsRow 0 5 1 v n (u8s l)) (hn : n + s.size ≤ 140737488350100) :
    Calls Tryd.prog 10 #[v, .string s] w fun en w' => ∃ v', en = .returned v' ∧ AppPost v (n + (bytesOf (numsOf s)).length) (l ++ bytesOf (numsOf s)) w v' w' := by
  have hten := groups_ten (x := s.size) (by omega)
  have HL : Hid ((n + (groups s.size).length + s.size) * 1 ≤ 140737488355328 ∧ n + (groups s.size).length + s.size ≤ maxLen) := by show _ ∧ _; unfold maxLen; omega
  have HW : Hid (bytesOf (numsOf s) = groups s.size ++ numsOf s) := by show _ = _; rw [bytesOf, numsOf_length]
  have hw : IntKind.u64.wrap (s.size : Int) = (s.size : Int) := by rw [IntKind.wrap_u64]; omega
  have H := Lib.hid h
  obtain ⟨q0, c0, hv⟩ := (Rd.of_owns h).shape
  subst hv
  clear h
  go_enter Tryd.func10, Tryd.ntmps10
  go_wp2_with fail
  refine (append_any _ _ l s.size (by omega) _ H.out (by omega)).mono ?_
  rintro e w1 ⟨r, rfl, hP⟩
  obtain ⟨p, c, hr⟩ := (Rd.of_owns hP.own).shape
  subst hr
  have HO := Lib.hid hP.own
  have HM := Lib.hid hP.mods
  have HF := Lib.hid hP.fresh
  clear hP
  go_wp2_with (at_builtin; refine wpList_extendStr Tryd.elemU8 Tryd.underlying9 _ _ _ _ HO.out s HL.out rfl _ _ rfl rfl rfl ?_)
  intro v2 w2 hown hmods hfr
  have HP2 : Hid (AppPost (.slice q0 n c0) (n + (bytesOf (numsOf s)).length) (l ++ bytesOf (numsOf s)) w v2 w2) := by
    refine ⟨?_, HM.out.trans hmods (fun j hj e => ?_), fun k hk => ?_⟩
    · rw [HW.out, List.length_append, numsOf_length, ← Nat.add_assoc, ← List.append_assoc, u8s_append]
      exact hown
    · rcases HF.out j e with h | h
      · exact h
      · omega
    · rcases hfr k hk with h | h
      · exact HF.out k h
      · have := HM.out.size; exact Or.inr (by omega)
  clear hown hmods hfr
  go_wp2_with fail
  go_ret
  exact ⟨_, rfl, HP2.out⟩

set_option maxHeartbeats 1000000 in
theorem append_section (v : Value) (n : Nat) (l : List Nat) (id : Nat) (d : Value) (D : List Nat) (w : World) (hT : Tab w) (h : w.ownsRow 0 5 1 v n (u8s l)) (hid : id < 256) (hD : Rd w 1 d D.length (u8s D)) (hlt : ∀ c ∈ D, c < 256) (hn : n + D.length ≤ 140737488350000) :
    Calls Tryd.prog 12 #[v, .agg #[.int .u8 (id : Int), d]] w fun en w' => ∃ v', en = .returned v' ∧ AppPost v (n + (frameOf id D).length) (l ++ frameOf id D) w v' w' := by
  have H := Lib.hid h
  have HD := Lib.hid hD
  have HT := Lib.hid hT
  obtain ⟨q0, c0, hv⟩ := (Rd.of_owns h).shape
  subst hv
  obtain ⟨qd, cd, hv⟩ := hD.shape
  subst hv
  have hsz : (w.alloc (.cells #[.int .u8 (id : Int), .slice qd D.length cd] 28)).heap.size = w.heap.size + 1 := by simp
  have HBa : Hid (Below w.heap.size w ((w.alloc (.cells #[.int .u8 (id : Int), .slice qd D.length cd] 28)).alloc (.cells #[.int .u8 (id : Int)] 5))) := ((Below.refl _ _).alloc (Nat.le_refl _) _).alloc (by omega) _
  have HO0 : Hid (((w.alloc (.cells #[.int .u8 (id : Int), .slice qd D.length cd] 28)).alloc (.cells #[.int .u8 (id : Int)] 5)).ownsRow 0 5 1 (.slice (some ⟨w.heap.size + 1, 0, none⟩) 1 1) 1 (u8s [id])) := by
    have h : ((w.alloc (.cells #[.int .u8 (id : Int), .slice qd D.length cd] 28)).alloc (.cells #[.int .u8 (id : Int)] 5)).ownsRow 0 5 1 (.slice (some ⟨(w.alloc (.cells #[.int .u8 (id : Int), .slice qd D.length cd] 28)).heap.size, 0, none⟩) 1 1) 1 (u8s [id]) := World.ownsRow_lit (base := 0) (w.alloc (.cells #[.int .u8 (id : Int), .slice qd D.length cd] 28)) #[.int .u8 (id : Int)] 1 (Nat.zero_le _) (by simp [maxLen]) (by simp)
    rw [hsz] at h
    exact h
  have HDa := Lib.hid (HD.out.below HBa.out)
  have HTa := Lib.hid (HT.out.below HBa.out (Nat.le_refl _))
  have HM := Lib.hid hlt
  have hlen := bytesOf_length D
  have hten := groups_ten (x := D.length) (by omega)
  have HLen : Hid ((groups D.length).length ≤ 10 ∧ (bytesOf D).length = (groups D.length).length + D.length) := ⟨by omega, hlen⟩
  have hwD : IntKind.u64.wrap (D.length : Int) = (D.length : Int) := by rw [IntKind.wrap_u64]; omega
  have cI : ((w.alloc (.cells #[.int .u8 (id : Int), .slice qd D.length cd] 28)).alloc (.cells #[.int .u8 (id : Int)] 5)).cell? ⟨w.heap.size, 1, none⟩ = some (.slice qd D.length cd) := ((Blk.new w #[.int .u8 (id : Int), .slice qd D.length cd] 28).alloc _).cell 1
  have HcI := Lib.hid cI
  have HBoxLt : Hid (w.heap.size < ((w.alloc (.cells #[.int .u8 (id : Int), .slice qd D.length cd] 28)).alloc (.cells #[.int .u8 (id : Int)] 5)).heap.size) := by show _ < _; simp; omega
  clear h hD hT hsz hlt hlen hten
  go_enter Tryd.func12, Tryd.ntmps12
  go_wp2_with fail
  refine (append_any _ 1 [id] D.length (by omega) _ HO0.out (by omega)).mono ?_
  rintro e w1 ⟨r, rfl, hP⟩
  obtain ⟨p1, c1, hr⟩ := (Rd.of_owns hP.own).shape
  subst hr
  have HO1 := Lib.hid hP.own
  have HF1 : Hid (∀ k, (Value.slice p1 (1 + (groups D.length).length) c1).ownBlock = some k → w.heap.size + 1 ≤ k) := fun k hk => by
    rcases hP.fresh k hk with e | e
    · have e' : w.heap.size + 1 = k := Option.some.inj e
      omega
    · have := HBoxLt.out; omega
  have HB1 := Lib.hid (HBa.out.trans (hP.below (B := w.heap.size) HBa.out.size (fun k hk => by have e := Option.some.inj hk; simp at e; omega)))
  have HD1 := Lib.hid (HD.out.below HB1.out)
  have cX : w1.cell? ⟨w.heap.size, 1, none⟩ = some (.slice qd D.length cd) := hP.mods.cell HcI.out (fun e => by have e' : w.heap.size + 1 = w.heap.size := Option.some.inj e; omega)
  have HL1 : Hid ((1 + (groups D.length).length + D.length) * 1 ≤ 140737488355328 ∧ 1 + (groups D.length).length + D.length ≤ maxLen) := by
    show _ ∧ _
    have := HLen.out.1
    unfold maxLen
    omega
  clear hP HO0 HDa HTa cI HcI
  go_wp2_with (at_builtin; refine wpList_extend Tryd.elemU8 _ _ _ _ _ _ _ HO1.out HD1.out (u8s_oneCell _) HL1.out rfl _ _ rfl rfl rfl ?_)
  intro v2 w2 hown hmods hfr
  have eL : u8s ([id] ++ groups D.length) ++ u8s D = u8s (id :: bytesOf D) := by rw [← u8s_append, bytesOf, List.append_assoc]; rfl
  have hown : w2.ownsRow 0 5 1 v2 (1 + (groups D.length).length + D.length) (u8s (id :: bytesOf D)) := by rw [← eL]; exact hown
  have HB2 := Lib.hid (HB1.out.trans (hmods.below HB1.out.size (fun k hk e => by have := HF1.out k e; omega)))
  have HT2 := Lib.hid (HT.out.below HB2.out (Nat.le_refl _))
  have HLe : (id :: bytesOf D).length = 1 + (groups D.length).length + D.length := by rw [List.length_cons, HLen.out.2]; omega
  obtain ⟨p2, c2, hv2⟩ := (Rd.of_owns hown).shape
  subst hv2
  have HR2 : Hid (Rd w2 1 (.slice p2 (1 + (groups D.length).length + D.length) c2) (id :: bytesOf D).length (u8s (id :: bytesOf D))) := by
    show Rd _ _ _ _ _
    rw [HLe]
    exact Rd.of_owns hown
  have HLt2 : Hid (∀ z ∈ id :: bytesOf D, z < 256) := fun z hzm => by
    rcases List.mem_cons.1 hzm with rfl | h1
    · exact hid
    · exact bytesOf_lt HM.out z h1
  have HN2 : Hid ((id :: bytesOf D).length ≤ 140737488355000) := by
    show _ ≤ _
    have := HLen.out.1
    rw [HLe]
    omega
  clear hown hmods hfr eL HLe cX HO1 HF1 HL1 HD1 HBoxLt
  go_wp2_with fail
  refine (crc_append _ (id :: bytesOf D) _ HT2.out HR2.out HLt2.out HN2.out).mono ?_
  rintro e w3 ⟨r, rfl, hM⟩
  obtain ⟨p3, c3, hr⟩ := (Rd.of_owns hM.1).shape
  subst hr
  have HR3 : Hid (Rd w3 1 (.slice p3 (frameOf id D).length c3) (frameOf id D).length (u8s (frameOf id D))) := Rd.of_owns hM.1
  have HB3 := Lib.hid (HB2.out.trans (hM.2.mono HB2.out.size))
  have HO3 := Lib.hid ((Mods.of_below HB3.out (fun _ => False)).owns H.out (fun _ _ e => e))
  have HL3 : Hid ((n + (frameOf id D).length) * 1 ≤ 140737488355328 ∧ n + (frameOf id D).length ≤ maxLen) := by
    show _ ∧ _
    have h1 := frameOf_length id D
    have h3 := HLen.out
    unfold maxLen
    omega
  have efr : (withCrc (id :: bytesOf D)).length = (frameOf id D).length := rfl
  rw [efr]
  clear hM HR2 HT2 HLt2 efr
  go_wp2_with (at_builtin; refine wpList_extend Tryd.elemU8 _ _ _ _ _ _ _ HO3.out HR3.out (u8s_oneCell _) HL3.out rfl _ _ rfl rfl rfl ?_)
  intro v4 w4 hown hmods hfr
  have HP4 : Hid (AppPost (.slice q0 n c0) (n + (frameOf id D).length) (l ++ frameOf id D) w v4 w4) := by
    refine ⟨by rw [u8s_append]; exact hown, (Mods.of_below HB3.out (fun k => (Value.slice q0 n c0).ownBlock = some k)).trans hmods (fun _ _ e => e), fun k hk => ?_⟩
    rcases hfr k hk with h | h
    · exact Or.inl h
    · have := HB3.out.size; exact Or.inr (by omega)
  clear hown hmods hfr
  go_wp2_with fail
  go_ret
  exact ⟨_, rfl, HP4.out⟩

theorem appends : WAp Tab where
  str := fun v n l s w _ h hn => append_bytes v n l s w h (by omega)
  sect := fun v n l id d D w hT h hid hD hlt _ hn => append_section v n l id d D w hT h hid hD hlt hn
end Go.Proofs.YtkgghlhmgolfbaaDoor
