/- Contracts: codes by their number, the check of a pair, as the reference has them. -/
import Derived.Test.YtnigmdkhecblnaaDoorKp
import Derived.Test.YtnigmdkhecblnaaDoorMF
set_option linter.unusedSimpArgs false
set_option linter.unusedVariables false
namespace Go.Proofs.YtnigmdkhecblnaaDoor
open Go.RowKit
set_option maxRecDepth 100000

theorem bitVal2 (bits m : Nat) (hb : bits < 2 ^ 32) : wrap64 (wrap64 (2 * Go.bits .and .i64 ((bits : Int) / 2 ^ m) 1) - 1) = 2 * ((bits / 2 ^ m % 2 : Nat) : Int) - 1 := by
  have e : ((bits : Int) / 2 ^ m) = ((bits / 2 ^ m : Nat) : Int) := by simp
  have hlt : bits / 2 ^ m ≤ bits := Nat.div_le_self _ _
  rw [e, i64_and_one _ (by omega)]
  have h2 : bits / 2 ^ m % 2 < 2 := Nat.mod_lt _ (by omega)
  have e1 : wrap64 (2 * ((bits / 2 ^ m % 2 : Nat) : Int)) = 2 * ((bits / 2 ^ m % 2 : Nat) : Int) := wrap64_id (by omega) (by omega)
  rw [e1, wrap64_id (by omega) (by omega)]

/-- The lag and the error of a pair. -/
def pairP (a b : List Int) : Int × Int :=
  if codeE a ≠ 0 then (0, codeE a) else if codeE b ≠ 0 then (0, codeE b) else if a.length ≠ b.length then (0, 10) else if lobe a b = 0 then (0, 0) else (lobe a b, 13)

end Go.Proofs.YtnigmdkhecblnaaDoor
