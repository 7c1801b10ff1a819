/- Mathematics: the answers of the examples. Plain numbers; no condition. -/
import Derived.Test.YtkcjiejdjdcbeaaRy25
import Derived.Test.YtkcjiejdjdcbeaaRy21
import Derived.Test.YtkcjiejdjdcbeaaRy16
import Derived.Test.YtkcjiejdjdcbeaaRy17
import Derived.Test.YtkcjiejdjdcbeaaRy27
set_option linter.unusedSimpArgs false
set_option linter.unusedVariables false
set_option linter.unusedSimpArgs false
set_option linter.unusedVariables false
namespace Go.Proofs.Ytkcjiejdjdcbeaa
open Go.RowKit
set_option maxRecDepth 100000

/-- The root, bit by bit. -/
def rootB (n : Nat) : Nat → Nat → Nat
  | 0, r => r
  | k + 1, r => if (r + 2 ^ k) * (r + 2 ^ k) ≤ n then rootB n k (r + 2 ^ k) else rootB n k r
theorem rootB_eq {n : Nat} : ∀ (k r : Nat), RootAt n r k → rootN n = rootB n k r
  | 0, r, h => h.done
  | k + 1, r, h => by
    unfold rootB
    split
    · rename_i hb
      exact rootB_eq k _ (h.yes hb)
    · rename_i hb
      exact rootB_eq k _ (h.no hb)
def rootC (n : Nat) : Nat := if n ≤ 1152921504606846976 then rootB n 31 0 else rootN n
theorem rootN_C : rootN = rootC := by
  funext n
  unfold rootC
  split
  · rename_i h
    exact rootB_eq 31 0 (RootAt.start h)
  · rfl
theorem awake_ground : grdE 100 1000 1 4 skyL = ((25706, 25712), 0) := by
  delta grdE grdQ halfQ legsL legQ rootQ
  rw [rootN_C]
  decide +kernel
theorem awake_secant : secQ 100 1 4 skyL = (1039, 0) := by
  delta secQ
  rw [rootN_C]
  decide +kernel
theorem awake_skip : skpQ 100 1000 4 oneL = ((11546, 11548, 1), 0) := by
  delta skpQ skAll skStep grdQ halfQ legsL legQ rootQ
  rw [rootN_C]
  decide +kernel
theorem awake_field : refQ 100 100 (-100) 100 1000 1 4 oneL = (1, 0) := by decide +kernel
end Go.Proofs.Ytkcjiejdjdcbeaa
