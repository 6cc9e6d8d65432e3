/- Layer 2: VarintRoundTrip, walked. -/
import Derived.Test.YtejaacejlbhndaaAlive02
import Derived.Test.YtejaacejlbhndaaBytesClone
set_option linter.unusedVariables false
namespace Go.Proofs.Ytejaacejlbhndaa.varintRoundTrip
open Go Go.RowKit

set_option maxHeartbeats 1000000 in
theorem walk (w : World) (v : Value) (l : List Nat) (ok : ∀ a ∈ l, a < 256) (hl : Rd w 1 v l.length (u8s l)) (hz : l.length * 1 ≤ 140737488351232) (x : Nat) (hx : x < 18446744073709551616)
    (v' : Value) (m : List Nat) (okm : ∀ a ∈ m, a < 256) (hm : Rd w 1 v' m.length (u8s m)) (hzm : m.length * 1 ≤ 140737488351232) :
    Calls Try.prog 6 #[v, .int .u64 x, v'] w fun e w' => e = .returned (.bool true) ∧ Below w.heap.size w w' := by
  have HL := Lib.hid hl
  have HM := Lib.hid hm
  have HK : Hid (∀ a ∈ l ++ groups x ++ m, a < 256) := fun a ha => by
    rcases List.mem_append.1 ha with h | h
    · rcases List.mem_append.1 h with h | h
      · exact ok a h
      · exact groups_lt x a h
    · exact okm a h
  have hten := groups_ten hx
  have hrd := readAt_groups l m hx
  have HRD := Lib.hid hrd
  obtain ⟨q, c, hv⟩ := hl.shape
  subst hv
  obtain ⟨q', c', hv'⟩ := hm.shape
  subst hv'
  clear hl ok hm okm hrd
  by_cases hlt : 5000 < l.length + m.length
  · have hlt' : (5000 : Int) < (l.length : Int) + (m.length : Int) := by omega
    go_enter Try.func6, Try.ntmps6
    go_wp2_with fail
    refine (alive_any _).mono ?_
    rintro e w1 ⟨rfl, hB⟩
    go_wp2_with fail
    go_ret
    exact ⟨rfl, hB⟩
  · have hlt' : ¬ (5000 : Int) < (l.length : Int) + (m.length : Int) := by omega
    have HLe : Hid ((l.length + (groups x).length + m.length) * 1 ≤ 140737488355328 ∧ l.length + (groups x).length + m.length ≤ maxLen) := by show _ ∧ _; unfold maxLen; omega
    go_enter Try.func6, Try.ntmps6
    go_wp2_with fail
    refine (bytes_clone _ _ _ _ HL.out (u8s_oneCell _) (by omega)).mono ?_
    rintro e w3 ⟨r3, rfl, hM⟩
    obtain ⟨p3, c3, hr3⟩ := (Rd.of_owns hM.1).shape
    subst hr3
    have HO3 := Lib.hid hM.1
    have HC3 := Lib.hid hM.2
    clear hM
    go_wp2_with fail
    refine (append_any _ _ l x hx _ (owns_rebase HO3.out (fun _ _ => Nat.zero_le _)) (by omega)).mono ?_
    rintro e w4 ⟨v4, rfl, hP⟩
    have HC4 := Lib.hid (HC3.out.trans (hP.below HC3.out.size (fun k hk => (HO3.out.lt k hk).1)))
    have HO4 := Lib.hid (hP.made HC3.out.size (fun k hk => (HO3.out.lt k hk).1))
    have HO4z := Lib.hid hP.own
    obtain ⟨p4, c4, hr4⟩ := (Rd.of_owns hP.own).shape
    subst hr4
    have HM4 := Lib.hid (HM.out.below HC4.out)
    clear hP HO3 HC3
    go_wp2_with (at_builtin; refine wpList_extend Try.elemU8 _ _ _ _ _ _ _ HO4z.out HM4.out (u8s_oneCell _) HLe.out rfl _ _ rfl rfl rfl ?_)
    intro v5 w5 hown hmods hfr
    have hQ := Rd.of_owns hown
    rw [← u8s_append] at hQ
    have HC5 := Lib.hid (HC4.out.trans (hmods.below HC4.out.size (fun k hk e => by have := (HO4.out.lt k e).1; omega)))
    obtain ⟨p5, c5, hr5⟩ := hQ.shape
    subst hr5
    have HQ : Hid (Rd w5 1 (.slice p5 (l.length + (groups x).length + m.length) c5) (l ++ groups x ++ m).length (u8s (l ++ groups x ++ m))) := by
      show Rd _ _ _ _ _
      rw [List.length_append, List.length_append]; exact hQ
    clear hown hmods hfr hQ HM4 HO4 HO4z HC4
    go_wp2_with fail
    refine (get_any _ (l ++ groups x ++ m) l.length _ HQ.out HK.out).mono ?_
    rintro e w6 ⟨rfl, rfl⟩
    rw [HRD.out]
    go_wp2_with fail
    refine (alive_any _).mono ?_
    rintro e w7 ⟨rfl, hB⟩
    have HC7 := Lib.hid (HC5.out.trans (hB.mono HC5.out.size))
    clear hB
    go_wp2_with fail
    go_ret
    exact ⟨rfl, HC7.out⟩
end Go.Proofs.Ytejaacejlbhndaa.varintRoundTrip
