/- Layer 14: the reference's Sort. -/
import Derived.Test.YtdhcfgbnjnidfaaRef14D
import Derived.Test.YtdhcfgbnjnidfaaAllocN
import Derived.Test.YtdhcfgbnjnidfaaRdBlk
set_option linter.unusedVariables false
set_option maxRecDepth 20000
namespace Go.Proofs.Ytdhcfgbnjnidfaa
open Go Go.RowKit

set_option maxHeartbeats 4000000 in
theorem ref_sort14 (lv : Value) (l : List Int) (w : World) (hl : Rd w 1 lv l.length (i64s l)) (hn : l.length ≤ 100000) :
    Calls Try.prog 24 #[lv] w fun e w' => ∃ v, e = .returned v ∧ OwnI w w' (sortZ l) v := by
  have HL := Lib.hid hl
  have HNn := Lib.hid hn
  obtain ⟨pm, cm, hv⟩ := hl.shape
  subst hv
  clear hl hn
  go_enter Try.func24, Try.ntmps24
  go_wp2_with fail
  obtain ⟨n, hn⟩ : ∃ n, w.heap.size = n := ⟨_, rfl⟩
  rw [hn]
  obtain ⟨w1, hw1⟩ : ∃ x, x = w.alloc (.cells #[.slice pm l.length cm] 22) := ⟨_, rfl⟩
  rw [← hw1]
  obtain ⟨k1, s1, b1⟩ := alloc_next hw1 hn
  have HR : Hid (RdLL w1 (.slice (some ⟨n, 0, none⟩) 1 1) [l]) := RdLL.single (Rd.of_blk (n := 1) k1 rfl (by simp [maxLen])) (HL.out.below b1)
  have HB := Lib.hid b1
  have HU := Lib.hid (ref_union14 _ [l] w1 HR.out (by have := HNn.out; simpa using this) (by simp))
  rw [unionZ_one] at HU
  clear hw1 k1 s1 b1 HR
  refine HU.out.mono ?_
  rintro e w2 ⟨v, rfl, hO⟩
  have HO : Hid (OwnI w w2 (sortZ l) v) := ⟨owns_rebase hO.row (fun k hk => by have := (hO.row.lt k hk).1; have := HB.out.size; omega), HB.out.trans (hO.bel.mono HB.out.size)⟩
  clear hO HU
  go_wp2_with fail
  go_ret
  exact ⟨_, rfl, HO.out⟩
end Go.Proofs.Ytdhcfgbnjnidfaa
