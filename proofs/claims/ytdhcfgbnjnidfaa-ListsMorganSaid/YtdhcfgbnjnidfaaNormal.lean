/- A region that ends in no panic. No program in sight. -/
import Derived.Test.YtdhcfgbnjnidfaaTakeR
namespace Go.Proofs.Ytdhcfgbnjnidfaa
open Go Go.RowKit

/-- A stretch that is left in one way alone. -/
theorem wp_normal {P : Program} {c : Code} {Q : Exit → Act → World → Prop} {a : Act} {w : World} (h : c.wp P (fun e a w => e = .normal ∧ Q .normal a w) a w) : c.wp P Q a w := wp_mono h (fun _ _ _ h => h.1 ▸ h.2)
end Go.Proofs.Ytdhcfgbnjnidfaa
