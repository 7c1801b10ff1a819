/- Contracts: which harmonics are lines, the errors and the copies of frames, as the reference has them. -/
import Derived.Test.YtnigmdkhecblnaaDoorP13
import Derived.Test.YtnigmdkhecblnaaDoorR6
set_option linter.unusedSimpArgs false
set_option linter.unusedVariables false
namespace Go.Proofs.YtnigmdkhecblnaaDoor
open Go.RowKit
set_option maxRecDepth 100000

theorem cmpS_line {all t num den : Int} : decide (0 < cmpS (3 * t) 1 (num * (all - t)) den) = lineB all t num den := by
  unfold cmpS lineB
  rw [Int.mul_one]
  by_cases h1 : 3 * t * den < num * (all - t)
  · rw [if_pos h1, decide_eq_false (by omega), decide_eq_false (by omega)]
  · rw [if_neg h1]
    by_cases h2 : num * (all - t) < 3 * t * den
    · rw [if_pos h2, decide_eq_true h2]; rfl
    · rw [if_neg h2, decide_eq_false h2]; rfl

end Go.Proofs.YtnigmdkhecblnaaDoor
