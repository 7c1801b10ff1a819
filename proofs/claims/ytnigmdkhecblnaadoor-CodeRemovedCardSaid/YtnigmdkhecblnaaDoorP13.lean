/- Contracts: the powers of harmonics in frames, as the reference has them. -/
import Derived.Test.YtnigmdkhecblnaaDoorP12
set_option linter.unusedSimpArgs false
set_option linter.unusedVariables false
namespace Go.Proofs.YtnigmdkhecblnaaDoor
open Go.RowKit
set_option maxRecDepth 100000


theorem blockNs_past {us : List Bool} {m : Nat} (h : us.length ≤ 4 * m + 3) : ∀ d, blockNs us (m + d) = blockNs us m
  | 0 => rfl
  | d + 1 => by
    rw [← Nat.add_assoc, blockNs_succ_no, blockNs_past h d]
    exact allU_false (q := 3) (by omega) (by simp [List.getD, show us.length ≤ 4 * (m + d) + 3 by omega])
theorem pow4_length (t : Nat → Int) : (pow4 t).length = 4 := rfl
theorem pow4_congr {s t : Nat → Int} (h : ∀ n, n < 4 → s n = t n) : pow4 s = pow4 t := by
  unfold pow4; rw [h 0 (by omega), h 1 (by omega), h 2 (by omega), h 3 (by omega)]
theorem Fr.parts {f : Fr} (h : f.err = 0) : (∀ g ∈ f.samples, gle 2000000 g) ∧ f.samples.length ≤ 64 := by
  obtain ⟨hh, hsamp, _⟩ := frameE_zero h
  obtain ⟨_, _, l1, l2, n1, n2⟩ := headE_zero hh
  exact ⟨fun q hq => by have := hsamp q hq; simp only [gle]; omega, by omega⟩

/-- What has been summed of a frame: t, and the powers of its blocks below j. -/
def upTo (t : Nat → Int) (samples : List (Int × Int)) (us : List Bool) (j n : Nat) : Int := t n + pwSum samples (blockNs us j) n

end Go.Proofs.YtnigmdkhecblnaaDoor
