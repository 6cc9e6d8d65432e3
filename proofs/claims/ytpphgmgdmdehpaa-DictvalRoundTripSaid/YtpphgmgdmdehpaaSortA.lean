/- slices.Sort of words: the row that it turns. The pure side is the library's (Derived.Sort). -/
import Derived.Test.YtpphgmgdmdehpaaU64
import Derived.Test.YtpphgmgdmdehpaaTakeR
import Derived.OwnWalk
import Derived.BigRegion
import Derived.Sort.AssemblyPlain
set_option linter.unusedVariables false
namespace Go.Proofs.Ytpphgmgdmdehpaa
open Go Go.RowKit

def ltU (x y : Nat) : Bool := decide (x < y)
theorem ltU_int (x y : Nat) : decide ((x : Int) < (y : Int)) = ltU x y := by simp [ltU]

/-- The row of n words, being turned: what it was at w, and what it is at wr. -/
structure SU (w wr : World) (g n c : Nat) (d : Array Nat) : Prop where
  sz : d.size = n
  row : wr.ownsRow 0 25 1 (.slice (some ⟨g, 0, none⟩) n c) n (u64s d.toList)
  mods : Mods (fun k => k = g) w wr
theorem u64s_at {d : Array Nat} {i : Nat} (h : i < d.size) : (u64s d.toList)[i]? = some (.int .u64 (d[i]! : Int)) := by
  rw [u64s, List.getElem?_map, Array.getElem?_toList, Array.getElem?_eq_getElem h, getElem!_pos d i h]; rfl
theorem SU.cell {w wr : World} {g n c : Nat} {d : Array Nat} (h : SU w wr g n c d) {i : Nat} (hi : i < n) : wr.cell? ⟨g, i, none⟩ = some (.int .u64 (d[i]! : Int)) := by
  rw [h.row.cellAt i (by omega), u64s_at (by rw [h.sz]; exact hi)]
theorem SU.free {w wr : World} {g n c : Nat} {d : Array Nat} (h : SU w wr g n c d) (i : Nat) : wr.frozen? ⟨g, i, none⟩ = false := h.row.frozenAt i
theorem SU.drewN {w wr : World} {g n c : Nat} {d : Array Nat} (h : SU w wr g n c d) (m : Nat) : SU w (wr.drewN m) g n c d :=
  ⟨h.sz, (Mods.drewN (fun _ => False) wr m).owns h.row (fun _ _ e => e), h.mods.trans (Mods.drewN _ wr m) (fun _ _ e => e)⟩
theorem SU.drew {w wr : World} {g n c : Nat} {d : Array Nat} (h : SU w wr g n c d) : SU w wr.drew g n c d :=
  ⟨h.sz, (Mods.drew (fun _ => False) wr).owns h.row (fun _ _ e => e), h.mods.trans (Mods.drew _ wr) (fun _ _ e => e)⟩
theorem SU.swp {w wr : World} {g n c : Nat} {d : Array Nat} (h : SU w wr g n c d) {i j : Nat} (hi : i < n) (hj : j < n) :
    SU w ((wr.setCell ⟨g, i, none⟩ (.int .u64 (d[j]! : Int))).setCell ⟨g, j, none⟩ (.int .u64 (d[i]! : Int))).drew g n c (Sort.swp d i j) := by
  have h2 := ((h.row.stored i (.int .u64 (d[j]! : Int))).1.stored j (.int .u64 (d[i]! : Int))).1
  have e : ((u64s d.toList).set i (.int .u64 (d[j]! : Int))).set j (.int .u64 (d[i]! : Int)) = u64s (Sort.swp d i j).toList := by
    simp [u64s, Sort.swp, List.map_set]
  rw [e] at h2
  have hS : ∀ (wy : World) (o : Nat) (v : Value), Mods (fun k => k = g) wy (wy.setCell ⟨g, o, none⟩ v) := fun wy o v => Mods.set _ _ _ _ (fun _ => rfl)
  exact ⟨by rw [Sort.size_swp]; exact h.sz, (Mods.drew (fun _ => False) _).owns h2 (fun _ _ e => e),
    ((h.mods.trans (hS _ _ _) (fun _ _ e => e)).trans (hS _ _ _) (fun _ _ e => e)).trans (Mods.drew _ _) (fun _ _ e => e)⟩
/-- Between the two stores of an exchange. -/
theorem SU.mid {w wr : World} {g n c : Nat} {d : Array Nat} (h : SU w wr g n c d) {i j : Nat} (hi : i < n) (hj : j < n) :
    (wr.setCell ⟨g, i, none⟩ (.int .u64 (d[j]! : Int))).drew.cell? ⟨g, j, none⟩ = some (.int .u64 (d[j]! : Int)) ∧ (wr.setCell ⟨g, i, none⟩ (.int .u64 (d[j]! : Int))).drew.frozen? ⟨g, j, none⟩ = false := by
  have h2 := (h.row.stored i (.int .u64 (d[j]! : Int))).1
  refine ⟨?_, h2.frozenAt j⟩
  have h3 := h2.cellAt j (by omega)
  refine h3.trans ?_
  by_cases e : i = j
  · subst e
    rw [List.getElem?_set_self (by rw [u64s_length, Array.length_toList, h.sz]; exact hi)]
  · rw [List.getElem?_set_ne e, u64s_at (by rw [h.sz]; exact hj)]
theorem SU.trans {w wr wz : World} {g n c : Nat} {d e : Array Nat} (h : SU w wr g n c d) (k : SU wr wz g n c e) : SU w wz g n c e := ⟨k.sz, k.row, h.mods.trans k.mods (fun _ _ e => e)⟩
theorem SU.here {w wr : World} {g n c : Nat} {d : Array Nat} (h : SU w wr g n c d) : SU wr wr g n c d := ⟨h.sz, h.row, Mods.refl _ _⟩

theorem isnan_u64' (x : Nat) (w : World) : Calls Try.prog 58 #[.int .u64 (x : Int)] w fun e w' => e = .returned (.bool false) ∧ w' = w := by
  go_enter Try.func58, Try.ntmps58
  go_wp2_with fail
  go_ret
  exact ⟨by simp, rfl⟩
theorem less_u64' (x y : Nat) (w : World) : Calls Try.prog 50 #[.int .u64 (x : Int), .int .u64 (y : Int)] w fun e w' => e = .returned (.bool (ltU x y)) ∧ w' = w := by
  go_enter Try.func50, Try.ntmps50
  go_wp2_with fail
  refine (isnan_u64' x w).mono ?_
  rintro e w1 ⟨rfl, rfl⟩
  go_wp2_with fail
  go_ret
  exact ⟨by simp [ltU], rfl⟩
end Go.Proofs.Ytpphgmgdmdehpaa
