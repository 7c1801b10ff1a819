/- Contracts: the check of a pair, the doubled and the interleaved pair (the program's). Written by tools/genp3.py. -/
import Derived.Test.YtnigmdkhecblnaaDoorP2
import Derived.Test.YtnigmdkhecblnaaDoorS1
set_option linter.unusedSimpArgs false
set_option linter.unusedVariables false
namespace Go.Proofs.YtnigmdkhecblnaaDoor
open Go.RowKit
set_option maxRecDepth 100000

theorem kpn {n : Nat} {W w' : World} (h : Below n W w') : (∀ b o, b < n → w'.cell? ⟨b, o, none⟩ = W.cell? ⟨b, o, none⟩) ∧ Below n W w' := ⟨fun b o hb => h.cell (p := ⟨b, o, none⟩) hb, h⟩

/-- The first error of two codes and of their lengths. -/
def codesE (a b : List Int) : Int := firstE [codeE a, codeE b, errIf ((a.length : Int) != (b.length : Int)) 10]
theorem pairP_of (a b : List Int) : pairP a b = if codesE a b ≠ 0 then (0, codesE a b) else (lobe a b, errIf (lobe a b != 0) 13) := by
  unfold pairP codesE firstE errIf
  by_cases h1 : codeE a = 0
  · simp only [h1]
    by_cases h2 : codeE b = 0
    · simp only [h2]
      by_cases h3 : a.length = b.length
      · by_cases h4 : lobe a b = 0 <;> simp [firstE, h3, h4]
      · have : ((a.length : Int) != (b.length : Int)) = true := by simp; omega
        simp [firstE, h3, this]
    · simp [firstE, h2]
  · simp [h1]
theorem codesE_zero {a b : List Int} (h : codesE a b = 0) : codeE a = 0 ∧ codeE b = 0 ∧ a.length = b.length := by
  have h1 := firstE_zero h
  refine ⟨h1 _ (by simp), h1 _ (by simp), ?_⟩
  have h3 := h1 (errIf ((a.length : Int) != (b.length : Int)) 10) (by simp)
  unfold errIf at h3
  by_cases h : a.length = b.length
  · exact h
  · have e : ((a.length : Int) != (b.length : Int)) = true := by simp; omega
    rw [e] at h3; simp at h3

/-- The error of a pair that is to become twice as long. -/
def longE (a b : List Int) : Int := firstE [(pairP a b).2, errIf (decide ((32 : Int) < 2 * (a.length : Int))) 8]
end Go.Proofs.YtnigmdkhecblnaaDoor
