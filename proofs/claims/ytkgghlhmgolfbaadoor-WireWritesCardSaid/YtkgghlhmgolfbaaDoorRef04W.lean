/- Layer 4: the reference's strings and frames. -/
import Derived.Test.YtkgghlhmgolfbaaDoorRead
import Derived.Test.YtkgghlhmgolfbaaDoorString
import Derived.Test.YtkgghlhmgolfbaaDoorRef02
import Derived.Test.YtkgghlhmgolfbaaDoorRef03B
set_option linter.unusedVariables false
namespace Go.Proofs.YtkgghlhmgolfbaaDoor
open Go Go.RowKit

set_option maxHeartbeats 1000000 in
theorem ref_bytes (s : ByteArray) (hs : s.size ≤ 140737488353000) (w : World) :
    Calls Tryd.prog 14 #[.string s] w fun e w' => ∃ r, e = .returned r ∧ Made w w' 5 1 r (bytesOf (numsOf s)).length (u8s (bytesOf (numsOf s))) := by
  have hten := groups_ten (x := s.size) (by omega)
  have HL : Hid (((groups s.size).length + s.size) * 1 ≤ 140737488355328 ∧ (groups s.size).length + s.size ≤ maxLen) := by show _ ∧ _; unfold maxLen; omega
  have HW : Hid (bytesOf (numsOf s) = groups s.size ++ numsOf s) := by show _ = _; rw [bytesOf, numsOf_length]
  have hw : IntKind.u64.wrap (s.size : Int) = (s.size : Int) := by rw [IntKind.wrap_u64]; omega
  go_enter Tryd.func14, Tryd.ntmps14
  go_wp2_with fail
  refine (ref_encode s.size (by omega) _).mono ?_
  rintro e w1 ⟨r, rfl, hM⟩
  obtain ⟨p, c, hr⟩ := (Rd.of_owns hM.1).shape
  subst hr
  have HO : Hid (w1.ownsRow 0 5 1 (.slice p (groups s.size).length c) (groups s.size).length (u8s (groups s.size))) := owns_rebase hM.1 (fun _ _ => Nat.zero_le _)
  have HF : Hid (∀ k, (Value.slice p (groups s.size).length c).ownBlock = some k → w.heap.size ≤ k) := fun k hk => (hM.1.lt k hk).1
  have HB := Lib.hid hM.2
  clear hM
  go_wp2_with (at_builtin; refine wpList_extendStr Tryd.elemU8 Tryd.underlying9 _ _ _ _ HO.out s HL.out rfl _ _ rfl rfl rfl ?_)
  intro v2 w2 hown hmods hfr
  have HM2 : Hid (Made w w2 5 1 v2 (bytesOf (numsOf s)).length (u8s (bytesOf (numsOf s)))) := by
    refine ⟨?_, HB.out.trans (hmods.below HB.out.size (fun k hk e => by have := HF.out k e; omega))⟩
    have h2 := owns_rebase hown (base' := w.heap.size) (fun k hk => by
      rcases hfr k hk with e | e
      · exact HF.out k e
      · have := HB.out.size; omega)
    rw [HW.out, List.length_append, numsOf_length, u8s_append]
    exact h2
  clear hown hmods hfr
  go_wp2_with fail
  go_ret
  exact ⟨_, rfl, HM2.out⟩

set_option maxHeartbeats 1000000 in
theorem ref_frame (id : Nat) (v : Value) (l : List Nat) (w : World) (hid : id < 256) (h : Rd w 1 v l.length (u8s l)) (hl : ∀ c ∈ l, c < 256) (hn : l.length ≤ 140737488353000) :
    Calls Tryd.prog 15 #[.int .u8 (id : Int), v] w fun e w' => ∃ r, e = .returned r ∧ Made w w' 5 1 r (frameOf id l).length (u8s (frameOf id l)) := by
  have hten := groups_ten (x := l.length) (by omega)
  have HB0 : Hid (Below w.heap.size w (w.alloc (.cells #[.int .u8 (id : Int)] 5))) := (Below.refl _ _).alloc (Nat.le_refl _) _
  have HR0 := Lib.hid (h.below HB0.out)
  have HCv := (HR0.out.conv (P := Tryd.prog) 22 5 9 Tryd.underlying22 Tryd.underlying5 Tryd.underlying9)
  have HNs := Lib.hid (numsOf_strOf hl)
  have HSz : Hid ((strOf l).size ≤ 140737488353000) := by show _ ≤ _; rw [← numsOf_length, numsOf_strOf hl]; exact hn
  have HO0 : Hid ((w.alloc (.cells #[.int .u8 (id : Int)] 5)).ownsRow 0 5 1 (.slice (some ⟨w.heap.size, 0, none⟩) 1 1) 1 (u8s [id])) := World.ownsRow_lit (base := 0) w #[.int .u8 (id : Int)] 1 (Nat.zero_le _) (by simp [maxLen]) (by simp)
  have HM := Lib.hid hl
  have HLen : Hid ((bytesOf l).length ≤ 140737488353010) := by show _ ≤ _; rw [bytesOf_length]; omega
  obtain ⟨p, c, hv⟩ := h.shape
  subst hv
  clear h hl
  go_enter Tryd.func15, Tryd.ntmps15
  go_wp2_with fail
  refine (ref_bytes (strOf l) HSz.out _).mono ?_
  rintro e w1 ⟨r, rfl, hM⟩
  rw [HNs.out] at hM
  obtain ⟨p1, c1, hr⟩ := (Rd.of_owns hM.1).shape
  subst hr
  have HR1 := Lib.hid (Rd.of_owns hM.1)
  have HO1 := Lib.hid ((Mods.of_below hM.2 (fun _ => False)).owns HO0.out (fun _ _ e => e))
  have HB1 := Lib.hid (HB0.out.trans (hM.2.mono HB0.out.size))
  have HL1 : Hid ((1 + (bytesOf l).length) * 1 ≤ 140737488355328 ∧ 1 + (bytesOf l).length ≤ maxLen) := by show _ ∧ _; have := HLen.out; unfold maxLen; omega
  clear hM HCv
  go_wp2_with (at_builtin; refine wpList_extend Tryd.elemU8 _ _ _ _ _ _ _ HO1.out HR1.out (u8s_oneCell _) HL1.out rfl _ _ rfl rfl rfl ?_)
  intro v2 w2 hown hmods hfr
  obtain ⟨p2, c2, hr⟩ := (Rd.of_owns hown).shape
  subst hr
  have HB2 : Hid (Below w.heap.size w w2) := HB1.out.trans (hmods.below HB1.out.size (fun k hk e => by have e' : w.heap.size = k := Option.some.inj e; omega))
  have HR2 : Hid (Rd w2 1 (.slice p2 (1 + (bytesOf l).length) c2) (id :: bytesOf l).length (u8s (id :: bytesOf l))) := by
    show Rd _ _ _ _ _
    rw [List.length_cons, Nat.add_comm (bytesOf l).length 1]
    exact Rd.of_owns hown
  have HM2 : Hid (∀ z ∈ id :: bytesOf l, z < 256) := fun z hzm => by
    rcases List.mem_cons.1 hzm with rfl | h1
    · exact hid
    · exact bytesOf_lt HM.out z h1
  have HL2 : Hid ((id :: bytesOf l).length ≤ 140737488355000) := by show _ ≤ _; rw [List.length_cons]; have := HLen.out; omega
  clear hown hmods hfr
  go_wp2_with fail
  refine (ref_append _ (id :: bytesOf l) _ HR2.out HM2.out HL2.out).mono ?_
  rintro e w3 ⟨r, rfl, hM⟩
  have HM3 : Hid (Made w w3 5 1 r (frameOf id l).length (u8s (frameOf id l))) := ⟨owns_rebase hM.1 (fun k hk => by have := (hM.1.lt k hk).1; have := HB2.out.size; omega), HB2.out.trans (hM.2.mono HB2.out.size)⟩
  clear hM
  go_wp2_with fail
  go_ret
  exact ⟨_, rfl, HM3.out⟩
end Go.Proofs.YtkgghlhmgolfbaaDoor
