/- The powers of harmonics in frames as plain sums. No condition. -/
import Derived.Test.YtmedjedmeggbpaaDoorW22
import Derived.Test.YtmedjedmeggbpaaDoorPow
namespace Go.Proofs.YtmedjedmeggbpaaDoor
open Go.RowKit

def Fr.pows (f : Fr) (n : Nat) : Int := pwSum f.samples (blockNs (usableL f.limit f.samples f.gaps) (f.samples.length / 4)) n
def powSum (l : List Fr) (n : Nat) : Int := (l.map fun f => f.pows n).sum
def pow4 (t : Nat → Int) : List Value := [.int .i64 (t 0), .int .i64 (t 1), .int .i64 (t 2), .int .i64 (t 3)]

theorem Fr.pows_bd {f : Fr} (h : f.err = 0) (n : Nat) : 0 ≤ f.pows n ∧ f.pows n ≤ 2048000000000000 := by
  obtain ⟨hh, hsamp, _⟩ := frameE_zero h
  obtain ⟨_, _, l1, l2, n1, n2⟩ := headE_zero hh
  have h1 := pwSum_bd (samples := f.samples) (fun q hq => by have := hsamp q hq; simp only [gle]; omega) n (blockNs (usableL f.limit f.samples f.gaps) (f.samples.length / 4))
  have h2 := blockNs_length (usableL f.limit f.samples f.gaps) (f.samples.length / 4)
  unfold Fr.pows
  omega
theorem powSum_bd (n : Nat) : ∀ {l : List Fr}, (∀ f ∈ l, f.err = 0) → 0 ≤ powSum l n ∧ powSum l n ≤ 2048000000000000 * l.length
  | [], _ => by simp [powSum]
  | f :: l, h => by
    have h1 := Fr.pows_bd (h f (by simp)) n
    have h2 := powSum_bd n (l := l) (fun g hg => h g (by simp [hg]))
    have e : powSum (f :: l) n = f.pows n + powSum l n := by simp [powSum]
    rw [e, List.length_cons]
    omega

/-- The powers after the first m harmonics of a block. -/
def tm (t : Nat → Int) (samples : List (Int × Int)) (j m n : Nat) : Int := if n < m then t n + pw samples j n else t n
theorem pow4_set (t : Nat → Int) (samples : List (Int × Int)) (j m : Nat) (hm : m < 4) : (pow4 (tm t samples j m)).set m (.int .i64 (t m + pw samples j m)) = pow4 (tm t samples j (m + 1)) := by
  have e : m = 0 ∨ m = 1 ∨ m = 2 ∨ m = 3 := by omega
  rcases e with rfl | rfl | rfl | rfl <;> rfl
theorem pow4_at (t : Nat → Int) (m : Nat) (hm : m < 4) : (pow4 t)[m]? = some (.int .i64 (t m)) := by
  have e : m = 0 ∨ m = 1 ∨ m = 2 ∨ m = 3 := by omega
  rcases e with rfl | rfl | rfl | rfl <;> rfl

end Go.Proofs.YtmedjedmeggbpaaDoor
