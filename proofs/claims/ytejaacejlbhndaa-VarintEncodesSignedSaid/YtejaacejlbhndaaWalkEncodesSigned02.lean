/- Layer 2: VarintEncodesSigned, walked. -/
import Derived.Test.YtejaacejlbhndaaAlive02
import Derived.Test.YtejaacejlbhndaaBytesClone
set_option linter.unusedVariables false
namespace Go.Proofs.Ytejaacejlbhndaa.varintEncodesSigned
open Go Go.RowKit

set_option maxHeartbeats 1000000 in
theorem walk (w : World) (v : Value) (l : List Nat) (ok : ∀ a ∈ l, a < 256) (hl : Rd w 1 v l.length (u8s l)) (hz : l.length * 1 ≤ 140737488351232) (x : Int) (hx : -9223372036854775808 ≤ x ∧ x < 9223372036854775808) :
    Calls Try.prog 4 #[v, .int .i64 x] w fun e w' => e = .returned (.bool true) ∧ Below w.heap.size w w' := by
  have HL := Lib.hid hl
  have hy := fold_lt hx
  have HX := Lib.hid hx
  have HK : Hid (∀ a ∈ l ++ groups (fold x), a < 256) := fun a ha => by
    rcases List.mem_append.1 ha with h | h
    · exact ok a h
    · exact groups_lt _ a h
  have hten := groups_ten hy
  obtain ⟨q, c, hv⟩ := hl.shape
  subst hv
  clear hl ok hx
  by_cases hlt : 5000 < l.length
  · have hlt' : (5000 : Int) < (l.length : Int) := by omega
    go_enter Try.func4, Try.ntmps4
    go_wp2_with fail
    refine (alive_any _).mono ?_
    rintro e w1 ⟨rfl, hB⟩
    go_wp2_with fail
    go_ret
    exact ⟨rfl, hB⟩
  · have hlt' : ¬ (5000 : Int) < (l.length : Int) := by omega
    go_enter Try.func4, Try.ntmps4
    go_wp2_with fail
    refine (bytes_clone _ _ _ _ HL.out (u8s_oneCell _) (by omega)).mono ?_
    rintro e w3 ⟨r3, rfl, hM⟩
    obtain ⟨p3, c3, hr3⟩ := (Rd.of_owns hM.1).shape
    subst hr3
    have HO3 := Lib.hid hM.1
    have HC3 := Lib.hid hM.2
    clear hM
    go_wp2_with fail
    refine (append_signed _ _ l x HX.out _ (owns_rebase HO3.out (fun _ _ => Nat.zero_le _)) (by omega)).mono ?_
    rintro e w4 ⟨v4, rfl, hP⟩
    have HC4 := Lib.hid (HC3.out.trans (hP.below HC3.out.size (fun k hk => (HO3.out.lt k hk).1)))
    have HO4 := Lib.hid (hP.made HC3.out.size (fun k hk => (HO3.out.lt k hk).1))
    obtain ⟨p4, c4, hr4⟩ := (Rd.of_owns hP.own).shape
    subst hr4
    clear hP HO3 HC3
    go_wp2_with fail
    refine (bytes_clone _ _ _ _ (HL.out.below HC4.out) (u8s_oneCell _) (by omega)).mono ?_
    rintro e w5 ⟨r5, rfl, hM⟩
    obtain ⟨p5, c5, hr5⟩ := (Rd.of_owns hM.1).shape
    subst hr5
    have HC5 := Lib.hid (HC4.out.trans (hM.2.mono HC4.out.size))
    have HO5 := Lib.hid (owns_rebase hM.1 (base' := 0) (fun _ _ => Nat.zero_le _))
    have HN5 : Hid (∀ k, (Value.slice p5 l.length c5).ownBlock = some k → w4.heap.size ≤ k) := fun k hk => (hM.1.lt k hk).1
    have HR5 := Lib.hid ((Rd.of_owns HO4.out).below hM.2)
    have HK5 : Hid (∀ k, (Value.slice p4 (l.length + (groups (fold x)).length) c4).ownBlock = some k → k < w4.heap.size) := fun k hk => owns_lt HO4.out k hk
    have HW5 : Hid (w.heap.size ≤ w4.heap.size) := HC4.out.size
    have HLe : Hid ((l.length + (groups (fold x)).length) * 1 ≤ 140737488355328 ∧ l.length + (groups (fold x)).length ≤ maxLen) := by show _ ∧ _; unfold maxLen; omega
    clear hM HO4 HC4
    go_wp2_with fail
    refine (ref_fold x HX.out _).mono ?_
    rintro e w6 ⟨rfl, rfl⟩
    go_wp2_with fail
    refine (ref_encode (fold x) hy _).mono ?_
    rintro e w6 ⟨r, rfl, hM⟩
    obtain ⟨rp, rc, hr⟩ := (Rd.of_owns hM.1).shape
    subst hr
    have HQ6 := Lib.hid (Rd.of_owns hM.1)
    have HC6 := Lib.hid (HC5.out.trans (hM.2.mono HC5.out.size))
    have HR6 := Lib.hid (HR5.out.below hM.2)
    have HO6 := Lib.hid ((Mods.of_below hM.2 (fun _ => False)).owns HO5.out (fun _ _ e => e))
    clear hM HR5 HO5 HC5
    go_wp2_with (at_builtin; refine wpList_extend Try.elemU8 _ _ _ _ _ _ _ HO6.out HQ6.out (u8s_oneCell _) HLe.out rfl _ _ rfl rfl rfl ?_)
    intro v7 w7 hown hmods hfr
    have HR7 := Lib.hid (HR6.out.mods hmods (fun k hk e => by have h1 := HK5.out k hk; have h2 := HN5.out k e; omega))
    have hQ7 := Rd.of_owns hown
    rw [← u8s_append] at hQ7
    have HQ7 := Lib.hid hQ7
    have HC7 := Lib.hid (HC6.out.trans (hmods.below HC6.out.size (fun k hk e => by have := HN5.out k e; have := HW5.out; omega)))
    obtain ⟨p7, c7, hr7⟩ := hQ7.shape
    subst hr7
    clear hown hmods hfr hQ7
    go_wp2_with fail
    refine (equal_any _ _ _ _ _ _ _ HR7.out HQ7.out HK.out HK.out).mono ?_
    rintro e w8 ⟨rfl, rfl⟩
    rw [decide_eq_true rfl]
    go_wp2_with fail
    have HG : Hid (Rd w7 1 (.slice p4 (l.length + (groups (fold x)).length) c4) (l ++ groups (fold x)).length (u8s (l ++ groups (fold x)))) := by
      show Rd _ _ _ _ _
      rw [List.length_append]; exact HR7.out
    refine (get_signed _ (l ++ groups (fold x)) l.length _ HG.out HK.out).mono ?_
    rintro e w8 ⟨rfl, hB⟩
    have hrd := readAt_groups l [] hy
    rw [List.append_nil] at hrd
    rw [hrd, unfold_fold]
    have HC8 := Lib.hid (HC7.out.trans (hB.mono HC7.out.size))
    clear hB hrd
    go_wp2_with fail
    refine (alive_any _).mono ?_
    rintro e w9 ⟨rfl, hB⟩
    have HC9 := Lib.hid (HC8.out.trans (hB.mono HC8.out.size))
    clear hB
    go_wp2_with fail
    go_ret
    exact ⟨rfl, HC9.out⟩
end Go.Proofs.Ytejaacejlbhndaa.varintEncodesSigned
