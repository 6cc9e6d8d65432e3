/- Layer 2: VarintEncodes, walked. -/
import Derived.Test.YtejaacejlbhndaaAlive02
import Derived.Test.YtejaacejlbhndaaBytesClone
set_option linter.unusedVariables false
namespace Go.Proofs.Ytejaacejlbhndaa.varintEncodes
open Go Go.RowKit

set_option maxHeartbeats 1000000 in
theorem walk (w : World) (v : Value) (l : List Nat) (ok : ∀ a ∈ l, a < 256) (hl : Rd w 1 v l.length (u8s l)) (hz : l.length * 1 ≤ 140737488351232) (x : Nat) (hx : x < 18446744073709551616) :
    Calls Try.prog 3 #[v, .int .u64 x] w fun e w' => e = .returned (.bool true) ∧ Below w.heap.size w w' := by
  have HL := Lib.hid hl
  have HK : Hid (∀ a ∈ l ++ groups x, a < 256) := fun a ha => by
    rcases List.mem_append.1 ha with h | h
    · exact ok a h
    · exact groups_lt x a h
  have hten := groups_ten hx
  obtain ⟨q, c, hv⟩ := hl.shape
  subst hv
  clear hl ok
  by_cases hlt : 5000 < l.length
  · have hlt' : (5000 : Int) < (l.length : Int) := by omega
    go_enter Try.func3, Try.ntmps3
    go_wp2_with fail
    refine (alive_any _).mono ?_
    rintro e w1 ⟨rfl, hB⟩
    go_wp2_with fail
    go_ret
    exact ⟨rfl, hB⟩
  · have hlt' : ¬ (5000 : Int) < (l.length : Int) := by omega
    go_enter Try.func3, Try.ntmps3
    go_wp2_with fail
    refine (ref_encode x hx _).mono ?_
    rintro e w1 ⟨r, rfl, hM⟩
    obtain ⟨rp, rc, hr⟩ := (Rd.of_owns hM.1).shape
    subst hr
    have HR1 := Lib.hid (Rd.of_owns hM.1)
    have HB1 := Lib.hid hM.2
    have HL1 := Lib.hid (HL.out.below hM.2)
    clear hM
    go_wp2_with fail
    refine (alive_any _).mono ?_
    rintro e w2 ⟨rfl, hB⟩
    have HR2 := Lib.hid (HR1.out.below hB)
    have HL2 := Lib.hid (HL1.out.below hB)
    have HB2 := Lib.hid (HB1.out.trans (hB.mono HB1.out.size))
    clear hB HR1 HL1 HB1
    go_wp2_with fail
    refine (bytes_clone _ _ _ _ HL2.out (u8s_oneCell _) (by omega)).mono ?_
    rintro e w3 ⟨r3, rfl, hM⟩
    obtain ⟨p3, c3, hr3⟩ := (Rd.of_owns hM.1).shape
    subst hr3
    have HO3 := Lib.hid hM.1
    have HC3 := Lib.hid hM.2
    clear hM
    go_wp2_with fail
    refine (append_any _ _ l x hx _ (owns_rebase HO3.out (fun _ _ => Nat.zero_le _)) (by omega)).mono ?_
    rintro e w4 ⟨v4, rfl, hP⟩
    have HC4 := Lib.hid (HC3.out.trans (hP.below HC3.out.size (fun k hk => (HO3.out.lt k hk).1)))
    have HO4 := Lib.hid (hP.made HC3.out.size (fun k hk => (HO3.out.lt k hk).1))
    obtain ⟨p4, c4, hr4⟩ := (Rd.of_owns hP.own).shape
    subst hr4
    clear hP HO3 HC3
    go_wp2_with fail
    refine (bytes_clone _ _ _ _ (HL2.out.below HC4.out) (u8s_oneCell _) (by omega)).mono ?_
    rintro e w5 ⟨r5, rfl, hM⟩
    obtain ⟨p5, c5, hr5⟩ := (Rd.of_owns hM.1).shape
    subst hr5
    have HC5 := Lib.hid (HC4.out.trans (hM.2.mono HC4.out.size))
    have HO5 := Lib.hid (owns_rebase hM.1 (base' := 0) (fun _ _ => Nat.zero_le _))
    have HN5 : Hid (∀ k, (Value.slice p5 l.length c5).ownBlock = some k → w4.heap.size ≤ k) := fun k hk => (hM.1.lt k hk).1
    have HR5 := Lib.hid ((Rd.of_owns HO4.out).below hM.2)
    have HQ5 := Lib.hid (HR2.out.below HC5.out)
    have HK5 : Hid (∀ k, (Value.slice p4 (l.length + (groups x).length) c4).ownBlock = some k → k < w4.heap.size) := fun k hk => owns_lt HO4.out k hk
    have HW5 : Hid (w2.heap.size ≤ w4.heap.size) := HC4.out.size
    have HLe : Hid ((l.length + (groups x).length) * 1 ≤ 140737488355328 ∧ l.length + (groups x).length ≤ maxLen) := by show _ ∧ _; unfold maxLen; omega
    clear hM HO4 HC4
    go_wp2_with (at_builtin; refine wpList_extend Try.elemU8 _ _ _ _ _ _ _ HO5.out HQ5.out (u8s_oneCell _) HLe.out rfl _ _ rfl rfl rfl ?_)
    intro v6 w6 hown hmods hfr
    have HR6 := Lib.hid (HR5.out.mods hmods (fun k hk e => by have h1 := HK5.out k hk; have h2 := HN5.out k e; omega))
    have hQ6 := Rd.of_owns hown
    rw [← u8s_append] at hQ6
    have HQ6 := Lib.hid hQ6
    have HB6 := Lib.hid (HB2.out.trans ((HC5.out.trans (hmods.below HC5.out.size (fun k hk e => by have := HN5.out k e; have := HW5.out; omega))).mono HB2.out.size))
    obtain ⟨p6, c6, hr6⟩ := hQ6.shape
    subst hr6
    clear hown hmods hfr hQ6
    go_wp2_with fail
    refine (equal_any _ _ _ _ _ _ _ HR6.out HQ6.out HK.out HK.out).mono ?_
    rintro e w7 ⟨rfl, rfl⟩
    rw [decide_eq_true rfl]
    go_wp2_with fail
    refine (size_any x hx _).mono ?_
    rintro e w7 ⟨rfl, hB⟩
    have HB7 := Lib.hid (HB6.out.trans (hB.mono HB6.out.size))
    clear hB
    go_wp2_with fail
    go_ret
    exact ⟨rfl, HB7.out⟩
end Go.Proofs.Ytejaacejlbhndaa.varintEncodes
