/- Layer 14: what the walks ask of the program's functions, whatever they look like inside. -/
import Derived.Test.YtdhcfgbnjnidfaaRef14E
import Derived.Test.YtdhcfgbnjnidfaaRef14F
set_option linter.unusedVariables false
namespace Go.Proofs.Ytdhcfgbnjnidfaa
open Go Go.RowKit

def SmallZ (l : List Int) : Prop := l.length ≤ 1000 ∧ ∀ x ∈ l, -9223372036854775808 ≤ x ∧ x < 9223372036854775808
structure SortedLL (m : List (List Int)) : Prop where
  asc : ∀ l ∈ m, AscB ltI l
  small : ∀ l ∈ m, SmallZ l
  len : m.length ≤ 1000
  flat : m.flatten.length ≤ 1000
/-- T w: what the program's own memory, in the blocks below G, must hold. -/
structure LiIf (G : Nat) (T : World → Prop) : Prop where
  keeps : ∀ {S : Nat → Prop} {w w' : World}, T w → Mods S w w' → (∀ k, k < G → ¬ S k) → T w'
  low : ∀ {w : World}, T w → G ≤ w.heap.size
  isSorted : ∀ (lv : Value) (l : List Int) (w : World), T w → Rd w 1 lv l.length (i64s l) → (∀ x ∈ l, -9223372036854775808 ≤ x ∧ x < 9223372036854775808) →
    Calls Try.prog 10 #[lv] w fun e w' => e = .returned (.bool (decide (AscB ltI l))) ∧ Below w.heap.size w w'
  inter : ∀ (mv : Value) (m : List (List Int)) (w : World), T w → RdLL w mv m → SortedLL m →
    Calls Try.prog 14 #[mv] w fun e w' => ∃ v, e = .returned v ∧ OwnI w w' (interZ m) v
  union : ∀ (mv : Value) (m : List (List Int)) (w : World), T w → RdLL w mv m → SortedLL m →
    Calls Try.prog 16 #[mv] w fun e w' => ∃ v, e = .returned v ∧ OwnI w w' (unionZ m) v
  diff : ∀ (av bv : Value) (a b : List Int) (w : World), T w → Rd w 1 av a.length (i64s a) → Rd w 1 bv b.length (i64s b) → AscB ltI a → AscB ltI b → SmallZ a → SmallZ b →
    Calls Try.prog 18 #[av, bv] w fun e w' => ∃ v, e = .returned v ∧ OwnI w w' (diffZ a b) v
  compl : ∀ (lv : Value) (l : List Int) (n : Int) (w : World), T w → Rd w 1 lv l.length (i64s l) → AscB ltI l → SmallZ l → -9223372036854775808 ≤ n → n ≤ 1000 →
    Calls Try.prog 20 #[lv, .int .i64 n] w fun e w' => ∃ v, e = .returned v ∧ OwnI w w' (complZ l n) v
theorem LiIf.below {G : Nat} {T : World → Prop} (I : LiIf G T) {w w' : World} (h : T w) (hb : Below w.heap.size w w') : T w' := I.keeps h (Mods.of_below hb (fun _ => False)) (fun _ _ h => h)
end Go.Proofs.Ytdhcfgbnjnidfaa
