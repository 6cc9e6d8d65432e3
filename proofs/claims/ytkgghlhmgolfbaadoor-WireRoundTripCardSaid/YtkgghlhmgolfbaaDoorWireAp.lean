/- Layer 4: what the walks ask of the program's appends; '[]byte(s)'. -/
import Derived.Test.YtkgghlhmgolfbaaDoorRef04W
import Derived.Test.YtkgghlhmgolfbaaDoorVarintA
import Derived.Test.YtkgghlhmgolfbaaDoorBytesClone
import Derived.Test.YtkgghlhmgolfbaaDoorWireI
import Derived.Laws.IdiomStrings
set_option linter.unusedVariables false
namespace Go.Proofs.YtkgghlhmgolfbaaDoor
open Go Go.RowKit

/-- What the walks ask of the program's appends. -/
structure WAp (T : World → Prop) : Prop where
  str : ∀ (v : Value) (n : Nat) (l : List Nat) (s : ByteArray) (w : World), T w → w.ownsRow 0 5 1 v n (u8s l) → n + s.size ≤ 140737488350000 →
    Calls Tryd.prog 10 #[v, .string s] w fun en w' => ∃ v', en = .returned v' ∧ AppPost v (n + (bytesOf (numsOf s)).length) (l ++ bytesOf (numsOf s)) w v' w'
  sect : ∀ (v : Value) (n : Nat) (l : List Nat) (id : Nat) (d : Value) (D : List Nat) (w : World), T w → w.ownsRow 0 5 1 v n (u8s l) → id < 256 → Rd w 1 d D.length (u8s D) → (∀ c ∈ D, c < 256) → (∀ k, d.ownBlock = some k → v.ownBlock ≠ some k) → n + D.length ≤ 140737488350000 →
    Calls Tryd.prog 12 #[v, .agg #[.int .u8 (id : Int), d]] w fun en w' => ∃ v', en = .returned v' ∧ AppPost v (n + (frameOf id D).length) (l ++ frameOf id D) w v' w'

/-- '[]byte(s)' of a string. -/
theorem conv_bytes (w : World) (s : ByteArray) (hs : s.size ≤ 140737488351232) : ∃ p c w', (convert 9 22 (.string s)).run Tryd.prog w = .ok (.slice p s.size c) w' ∧ Rd w' 1 (.slice p s.size c) (numsOf s).length (u8s (numsOf s)) ∧ Below w.heap.size w w' ∧ (∀ k, (Value.slice p s.size c).ownBlock = some k → w.heap.size ≤ k) := by
  refine ⟨_, _, _, run_bytes_of_string w 9 22 5 s Tryd.underlying9 Tryd.underlying22 Tryd.underlying5, ?_, ((Below.refl _ w).drew).alloc (Nat.le_refl _) _, fun k hk => by rw [← Option.some.inj hk]; exact Nat.le_refl _⟩
  refine ⟨_, _, by rw [numsOf_length], by rw [u8s_length, Nat.mul_one], by rw [numsOf_length]; exact grownCap_ge _ _ _ _, grownCap_le_maxLen _ _ _ _ (by unfold maxLen; omega), (fun e => by cases e), fun ad e j u hu => ?_⟩
  cases e
  have e1 : (⟨w.heap.size, 0, none⟩ : Addr).add j = ⟨w.heap.size, j, none⟩ := by unfold Addr.add; split <;> simp_all
  have hj : j < s.data.size := by
    have h1 := (List.getElem?_eq_some_iff.1 hu).1
    rw [u8s_length, numsOf_length] at h1
    exact h1
  show (World.alloc w.drew _).cell? _ = _
  rw [e1]
  refine (World.cell?_alloc_mark w.drew _ _ _ j).trans ?_
  rw [bytesRow_at s _ j hj, ← hu, u8s_numsOf, List.getElem?_map, Array.getElem?_toList, Array.getElem?_eq_getElem hj]
  rfl
end Go.Proofs.YtkgghlhmgolfbaaDoor
