/- Layer 5: the program's table of forms, as the statements list it, gives the walks what they ask. -/
import Derived.Test.YtjgiaibpipgjjaaDoorRows
import Derived.Test.YtjgiaibpipgjjaaDoorTimesFo
import Derived.Deep.Strs
import Derived.Lib.LaidTab
import Derived.LaidMore
import Derived.LaidHandle
import Derived.Lay
import Derived.OpenShut
namespace Go.Proofs.YtjgiaibpipgjjaaDoor
open Go Go.RowKit

/-- What the statements list. -/
def listed : List (String × DataW Unit) := [("tsblock/times.forms", Rows.laid_tsblock_times_forms)]

theorem gForms : Tryd.prog.globalNamed "tsblock/times.forms" = some 0 := by kernel_rfl
theorem tForms : (Tryd.prog.globals[0]?).map (·.type) = some 85 := by kernel_rfl

def formData (k : Nat) : DataW Unit := .agg [.lit (.int .u64 (markT k : Int)), .lit (.int .i64 (markLenT k : Int)), .lit (.int .i64 (widthT k : Int))]
theorem listed_forms : Rows.laid_tsblock_times_forms = (.agg ((List.range 5).map formData) : DataW Unit) := rfl

theorem one_cell_of {cs : List Value} {i : Nat} {u : Value} (h : (cs.drop i).take 1 = [u]) : cs[i]? = some u := by
  have := congrArg (·[0]?) h
  simpa [List.getElem?_take, List.getElem?_drop] using this

theorem form_of_trod {W : World} {fuel : Nat} {cs : List Value} {p : List MemPlace} {k : Nat} (h : DataW.trod (fun _ => ()) Tryd.prog W 0 (fun _ => true) false fuel 67 cs = some (formData k, p)) :
    cs[0]? = some (.int .u64 (markT k : Int)) ∧ cs[1]? = some (.int .i64 (markLenT k : Int)) ∧ cs[2]? = some (.int .i64 (widthT k : Int)) := by
  obtain ⟨y0, y1, y2, n, hx, _, h0, h1, h2⟩ := Deep.trod_struct3 Tryd.underlying67 h
  obtain ⟨n0, c0, rfl, _⟩ := DataW.trod_int Tryd.underlying28 h0
  obtain ⟨n1, c1, rfl, _⟩ := DataW.trod_int Tryd.underlying3 h1
  obtain ⟨n2, c2, rfl, _⟩ := DataW.trod_int Tryd.underlying3 h2
  have hd := congrArg Prod.fst hx
  simp only [formData, DataW.agg.injEq, List.cons.injEq, DataW.lit.injEq, Lit.int.injEq, true_and, and_true] at hd
  obtain ⟨e0, e1, e2⟩ := hd
  rw [e0, e1, e2]
  exact ⟨one_cell_of c0, one_cell_of c1, one_cell_of c2⟩

theorem tab_of_laid {W : World} (h : laidMetH Tryd.prog listed W) : TabF W := by
  rw [MakeChecks.laidMetH_plain _ _ _ (by kernel_rfl)] at h
  obtain ⟨ps, ⟨g', t', cs, fuel, p, q, hg', ht', hvar, hd, _, _⟩, _⟩ := h
  obtain rfl := Option.some.inj (gForms.symm.trans hg')
  obtain rfl := Option.some.inj (tForms.symm.trans ht')
  rw [listed_forms] at hd
  obtain ⟨xs, m, _, hx, _, hxl, hi⟩ := DataW.trod_array Tryd.underlying85 hd
  have hce : Tryd.prog.cellsOf 67 = 3 := by kernel_rfl
  rw [hce] at hi
  have hm : (List.range 5).map formData = xs.map (·.1) := by
    have := congrArg Prod.fst hx
    simpa using this
  intro k hk
  have hk5 : k < 5 := by omega
  have hxk : (xs.map (·.1))[k]? = some (formData k) := by rw [← hm]; simp [hk5]
  rw [List.getElem?_map] at hxk
  obtain ⟨y, hy, hy1⟩ := Option.map_eq_some_iff.1 hxk
  have ht := hi k hk5
  rw [hy] at ht
  obtain ⟨y1, y2⟩ := y
  simp only at hy1
  subst hy1
  obtain ⟨a0, a1, a2⟩ := form_of_trod ht
  have hc : ∀ j, j < 3 → W.cell? ⟨0, k * 3 + j, none⟩ = ((cs.toList.drop (k * 3)).take 3)[j]? := fun j hj => by
    rw [World.var?_cell gForms hvar, List.getElem?_take, if_pos hj, List.getElem?_drop, Array.getElem?_toList]
  exact ⟨(hc 0 (by omega)).trans a0, (hc 1 (by omega)).trans a1, (hc 2 (by omega)).trans a2⟩

theorem start_met (os : Os) (args : Array Value) : laidMetH Tryd.prog listed ((World.laidAll Tryd.prog os listed).forCall (fun _ _ => 0) ⟨#[], args, []⟩).memory := by
  rw [MakeChecks.laidMetH_plain _ _ _ (by kernel_rfl)]
  exact laidMet_laidAll args (by kernel_rfl) (by kernel_rfl)
theorem start_shaped (os : Os) (args : Array Value) : ((World.laidAll Tryd.prog os listed).forCall (fun _ _ => 0) ⟨#[], args, []⟩).Shaped Tryd.prog := World.shaped_of_ZipB (by kernel_rfl) (by kernel_rfl)
end Go.Proofs.YtjgiaibpipgjjaaDoor
