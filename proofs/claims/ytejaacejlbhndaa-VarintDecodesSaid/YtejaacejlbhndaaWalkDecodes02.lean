/- Layer 2: VarintDecodes, walked. -/
import Derived.Test.YtejaacejlbhndaaAlive02
set_option linter.unusedVariables false
namespace Go.Proofs.Ytejaacejlbhndaa.varintDecodes
open Go Go.RowKit

set_option maxHeartbeats 1000000 in
theorem walk (w : World) (v : Value) (l : List Nat) (ok : ∀ a ∈ l, a < 256) (hl : Rd w 1 v l.length (u8s l)) (hz : l.length * 1 ≤ 140737488351232) (o : Int) (ho : -9223372036854775808 ≤ o ∧ o < 9223372036854775808) :
    Calls Try.prog 5 #[v, .int .i64 o] w fun e w' => e = .returned (.bool true) ∧ Below w.heap.size w w' := by
  have HL := Lib.hid hl
  have HK := Lib.hid ok
  have hy := readAt_lt ok o
  obtain ⟨q, c, hv⟩ := hl.shape
  subst hv
  clear hl ok ho
  by_cases hlt : 5000 < l.length
  · have hlt' : (5000 : Int) < (l.length : Int) := by omega
    go_enter Try.func5, Try.ntmps5
    go_wp2_with fail
    refine (alive_any _).mono ?_
    rintro e w1 ⟨rfl, hB⟩
    go_wp2_with fail
    go_ret
    exact ⟨rfl, hB⟩
  · have hlt' : ¬ (5000 : Int) < (l.length : Int) := by omega
    have HG1 := Lib.hid (fun w h => get_any (.slice q l.length c) l o w h HK.out)
    have HG2 := Lib.hid (fun w h => ref_get (.slice q l.length c) l o w h HK.out)
    have HG3 := Lib.hid (fun w h => get_signed (.slice q l.length c) l o w h HK.out)
    have HG4 := Lib.hid (ref_unfold (readAt l o).1 hy)
    generalize (readAt l o).1 = a at *
    generalize (readAt l o).2.1 = b at *
    generalize (readAt l o).2.2 = e at *
    go_enter Try.func5, Try.ntmps5
    go_wp2_with fail
    refine (HG1.out _ HL.out).mono ?_
    rintro e w1 ⟨rfl, rfl⟩
    go_wp2_with fail
    refine (HG2.out _ HL.out).mono ?_
    rintro e w1 ⟨rfl, rfl⟩
    go_wp2_with fail
    refine (HG3.out _ HL.out).mono ?_
    rintro e w1 ⟨rfl, hB⟩
    have HB1 := Lib.hid hB
    clear hB
    go_wp2_with fail
    refine (alive_any _).mono ?_
    rintro e w2 ⟨rfl, hB⟩
    have HB2 := Lib.hid (HB1.out.trans (hB.mono HB1.out.size))
    clear hB
    go_wp2_with fail
    refine (HG4.out _).mono ?_
    rintro e w3 ⟨rfl, rfl⟩
    go_wp2_with fail
    go_ret
    exact ⟨rfl, HB2.out⟩
end Go.Proofs.Ytejaacejlbhndaa.varintDecodes
