/- Lists of harmonics; the samples of a cleaned frame. -/
import Derived.Test.YtnigmdkhecblnaaDoorQ3
set_option linter.unusedSimpArgs false
set_option linter.unusedVariables false
namespace Go.Proofs.YtnigmdkhecblnaaDoor
open Go.RowKit
set_option maxRecDepth 100000

theorem linesE_zero {lines : List Int} (h : linesE lines = 0) (i : Nat) (hi : i < lines.length) : 0 ≤ lines[i] ∧ lines[i] ≤ 3 ∧ ∀ h0 : 0 < i, lines[i - 1] < lines[i] := by
  have h1 := firstBadFrom_zero h i hi
  rw [hitE_of, Nat.zero_add] at h1
  cases ho : outB lines[i] 0 3
  · rw [ho, if_neg (by simp)] at h1
    have h2 := outB_false.1 ho
    refine ⟨h2.1, h2.2, fun h0 => ?_⟩
    have e : lines.getD (i - 1) 0 = lines[i - 1] := by simp [List.getD, show i - 1 < lines.length by omega]
    rw [e] at h1
    by_cases hc : 0 < i ∧ lines[i] ≤ lines[i - 1]
    · rw [if_pos hc] at h1; exact absurd h1 (by decide)
    · by_cases h3 : lines[i] ≤ lines[i - 1]
      · exact absurd ⟨h0, h3⟩ hc
      · omega
  · rw [ho, if_pos rfl] at h1; exact absurd h1 (by decide)

theorem lines_at_least {lines : List Int} (h : linesE lines = 0) : ∀ (i : Nat) (hi : i < lines.length), (i : Int) ≤ lines[i]
  | 0, hi => (linesE_zero h 0 hi).1
  | i + 1, hi => by
    have h1 := lines_at_least h i (by omega)
    have h2 := (linesE_zero h (i + 1) hi).2.2 (by omega)
    simp only [Nat.add_sub_cancel] at h2
    omega

theorem lines_four {lines : List Int} (h : linesE lines = 0) : lines.length ≤ 4 := by
  by_cases hl : lines.length ≤ 4
  · exact hl
  · have h1 := lines_at_least h 4 (by omega)
    have h2 := (linesE_zero h 4 (by omega)).2.1
    omega

theorem lines_in {lines : List Int} (h : linesE lines = 0) : ∀ n ∈ lines, 0 ≤ n ∧ n ≤ 3 := fun n hn => by
  obtain ⟨i, hi, rfl⟩ := List.getElem_of_mem hn
  have := linesE_zero h i hi
  exact ⟨this.1, this.2.1⟩

/-- The samples of a cleaned frame: number i. -/
def cleanG (samples : List (Int × Int)) (us : List Bool) (lines : List Int) (i : Nat) : Int × Int :=
  restN (blk4 samples (i / 4)) lines (i % 4) (if allU us (4 * (i / 4)) = true then lines.length else 0)
def cleanL (samples : List (Int × Int)) (us : List Bool) (lines : List Int) (n : Nat) : List (Int × Int) := (List.range n).map (cleanG samples us lines)

theorem cleanL_length (samples : List (Int × Int)) (us : List Bool) (lines : List Int) (n : Nat) : (cleanL samples us lines n).length = n := by simp [cleanL]
theorem cleanL_succ (samples : List (Int × Int)) (us : List Bool) (lines : List Int) (n : Nat) : cleanL samples us lines (n + 1) = cleanL samples us lines n ++ [cleanG samples us lines n] := by simp [cleanL, List.range_succ]

/-- Nothing is taken away: four times the sample. -/
theorem rest_zero (samples : List (Int × Int)) (lines : List Int) (i : Nat) : restN (blk4 samples (i / 4)) lines (i % 4) 0 = (4 * (samples.getD i (0, 0)).1, 4 * (samples.getD i (0, 0)).2) := by
  have e : 4 * (i / 4) + i % 4 = i := Nat.div_add_mod i 4
  rw [restN, blk4_at samples (i / 4) (i % 4) (Nat.mod_lt _ (by omega)), e]

theorem gle_clean {samples : List (Int × Int)} (h : ∀ g ∈ samples, gle 2000000 g) (us : List Bool) {lines : List Int} (hl : lines.length ≤ 4) (i : Nat) : gle 40000000 (cleanG samples us lines i) := by
  obtain ⟨h1, h2, h3, h4⟩ := gle_rest (L := blk4 samples (i / 4)) (fun q => gle_blk4 (by omega) h _ q) lines (i % 4) (if allU us (4 * (i / 4)) = true then lines.length else 0)
  unfold cleanG
  generalize restN (blk4 samples (i / 4)) lines (i % 4) (if allU us (4 * (i / 4)) = true then lines.length else 0) = r at h1 h2 h3 h4 ⊢
  simp only [gle]
  split at h1 <;> rename_i hc
  · rw [if_pos hc] at h2 h3 h4; omega
  · rw [if_neg hc] at h2 h3 h4; omega
end Go.Proofs.YtnigmdkhecblnaaDoor
