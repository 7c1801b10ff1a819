/- Contracts: the doubled and the interleaved pair (the program's). Written by tools/genp4.py. -/
import Derived.Test.YtnigmdkhecblnaaDoorP3
import Derived.Test.YtnigmdkhecblnaaDoorKp2
set_option linter.unusedSimpArgs false
set_option linter.unusedVariables false
namespace Go.Proofs.YtnigmdkhecblnaaDoor
open Go.RowKit
set_option maxRecDepth 100000

theorem longE_zero {a b : List Int} (h : longE a b = 0) : codeE a = 0 ∧ codeE b = 0 ∧ a.length = b.length ∧ lobe a b = 0 ∧ 2 * a.length ≤ 32 := by
  have h1 := firstE_zero h
  have h2 := h1 (pairP a b).2 (by simp)
  have h3 := h1 (errIf (decide ((32 : Int) < 2 * (a.length : Int))) 8) (by simp)
  rw [pairP_of] at h2
  by_cases hc : codesE a b = 0
  · rw [if_neg (by omega)] at h2
    obtain ⟨q1, q2, q3⟩ := codesE_zero hc
    refine ⟨q1, q2, q3, ?_, ?_⟩
    · by_cases hz : lobe a b = 0
      · exact hz
      · have : (lobe a b != 0) = true := by simpa using hz
        simp [errIf, this] at h2
    · by_cases hz : (32 : Int) < 2 * (a.length : Int)
      · simp [errIf, hz] at h3
      · omega
  · rw [if_pos hc] at h2
    exact absurd h2 hc

end Go.Proofs.YtnigmdkhecblnaaDoor
