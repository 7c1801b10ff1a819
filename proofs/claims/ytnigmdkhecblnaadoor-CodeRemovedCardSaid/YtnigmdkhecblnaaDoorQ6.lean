/- Lists: the samples of a cleaned frame while its blocks are gone through. No condition. -/
import Derived.Test.YtnigmdkhecblnaaDoorQ5
import Derived.Test.YtnigmdkhecblnaaDoorIter3
set_option linter.unusedSimpArgs false
set_option linter.unusedVariables false
namespace Go.Proofs.YtnigmdkhecblnaaDoor
open Go.RowKit
set_option maxRecDepth 100000

/-- The samples when those of D are cleaned, and the others only four times as great. -/
def doneG (samples : List (Int × Int)) (lines : List Int) (D : Nat → Bool) (i : Nat) : Int × Int := restN (blk4 samples (i / 4)) lines (i % 4) (if D i = true then lines.length else 0)
def doneL (samples : List (Int × Int)) (lines : List Int) (D : Nat → Bool) : List (Int × Int) := (List.range samples.length).map (doneG samples lines D)

theorem doneL_length (samples : List (Int × Int)) (lines : List Int) (D : Nat → Bool) : (doneL samples lines D).length = samples.length := by simp [doneL]
theorem doneL_at {samples : List (Int × Int)} (lines : List Int) (D : Nat → Bool) {i : Nat} (h : i < samples.length) : (doneL samples lines D)[i]? = some (doneG samples lines D i) := by simp [doneL, h]

theorem doneL_set {samples : List (Int × Int)} (lines : List Int) {D E : Nat → Bool} {i : Nat} (h : i < samples.length) (hE : E i = true) (ho : ∀ k, k ≠ i → E k = D k) :
    (doneL samples lines D).set i (restN (blk4 samples (i / 4)) lines (i % 4) lines.length) = doneL samples lines E := by
  apply List.ext_getElem?
  intro k
  by_cases hk : k < samples.length
  · by_cases e : k = i
    · subst e
      rw [List.getElem?_set_self (by rw [doneL_length]; exact hk), doneL_at _ _ hk, doneG, hE, if_pos rfl]
    · rw [List.getElem?_set_ne (fun h => e h.symm), doneL_at _ _ hk, doneL_at _ _ hk, doneG, doneG, ho k e]
  · rw [List.getElem?_eq_none (by rw [List.length_set, doneL_length]; omega), List.getElem?_eq_none (by rw [doneL_length]; omega)]

/-- Which samples lie in some of the blocks, and in the first q of one block more. -/
def inBl (pre : List Nat) (j q i : Nat) : Bool := decide (i / 4 ∈ pre) || (decide (i / 4 = j) && decide (i % 4 < q))
theorem inBl_zero (pre : List Nat) (j : Nat) : (fun i => inBl pre j 0 i) = fun i => decide (i / 4 ∈ pre) := by funext i; simp [inBl]
theorem inBl_four (pre : List Nat) (j : Nat) : (fun i => inBl pre j 4 i) = fun i => decide (i / 4 ∈ pre ++ [j]) := by
  funext i
  have : i % 4 < 4 := Nat.mod_lt _ (by omega)
  simp [inBl, this]
theorem done_step {samples : List (Int × Int)} (lines : List Int) (pre : List Nat) {j q : Nat} (hq : q < 4) (h : 4 * j + q < samples.length) :
    (doneL samples lines fun i => inBl pre j q i).set (4 * j + q) (restN (blk4 samples j) lines q lines.length) = doneL samples lines fun i => inBl pre j (q + 1) i := by
  have e1 : (4 * j + q) / 4 = j := by omega
  have e2 : (4 * j + q) % 4 = q := by omega
  have := doneL_set (samples := samples) lines (D := fun i => inBl pre j q i) (E := fun i => inBl pre j (q + 1) i) (i := 4 * j + q) h (by simp [inBl, e1, e2]) (fun k hk => by
    simp only [inBl]
    by_cases ek : k / 4 = j
    · have : k % 4 ≠ q := fun h2 => hk (by omega)
      have : (k % 4 < q + 1) = (k % 4 < q) := by apply propext; omega
      simp only [this]
    · simp [ek])
  rwa [e1, e2] at this

theorem mem_blockNs {us : List Bool} {m j : Nat} : j ∈ blockNs us m ↔ j < m ∧ allU us (4 * j) = true := by simp [blockNs]
theorem done_all (samples : List (Int × Int)) {us : List Bool} (lines : List Int) (hu : us.length = samples.length) :
    (doneL samples lines fun i => decide (i / 4 ∈ blockNs us (samples.length / 4))) = cleanL samples us lines samples.length := by
  unfold doneL cleanL
  apply List.map_congr_left
  intro i hi
  have hi : i < samples.length := by simpa using hi
  unfold doneG cleanG
  have e : decide (i / 4 ∈ blockNs us (samples.length / 4)) = allU us (4 * (i / 4)) := by
    cases h : allU us (4 * (i / 4))
    · have : ¬ i / 4 ∈ blockNs us (samples.length / 4) := fun hm => by rw [(mem_blockNs.1 hm).2] at h; cases h
      simp [this]
    · have h3 := allU_iff.1 h 3 (by omega)
      have hl : 4 * (i / 4) + 3 < us.length := by
        by_cases hc : 4 * (i / 4) + 3 < us.length
        · exact hc
        · simp [List.getD, show us.length ≤ 4 * (i / 4) + 3 by omega] at h3
      have : i / 4 ∈ blockNs us (samples.length / 4) := mem_blockNs.2 ⟨by omega, h⟩
      simp [this]
  show restN (blk4 samples (i / 4)) lines (i % 4) (if decide (i / 4 ∈ blockNs us (samples.length / 4)) = true then lines.length else 0) = _
  rw [e]

/-- The error of what is to be cleaned. -/
def cleanE (gain limit : Int) (samples : List (Int × Int)) (gaps lines : List Int) : Int := if (frameE gain limit samples gaps).2 ≠ 0 then (frameE gain limit samples gaps).2 else remE gain limit lines
theorem firstE_four (a b c d : Int) : firstE [a, b, c, d] = if a ≠ 0 then a else if b ≠ 0 then b else if c ≠ 0 then c else d := by
  by_cases h0 : a = 0 <;> by_cases h1 : b = 0 <;> by_cases h2 : c = 0 <;> by_cases h3 : d = 0 <;> simp [firstE, h0, h1, h2, h3]
theorem clean_first {gain limit : Int} {samples : List (Int × Int)} {gaps : List Int} (lines : List Int) (h : (frameE gain limit samples gaps).2 = 0) :
    firstE [0, linesE lines, errIf (decide (2000000 < 20 * limit)) 8, errIf (decide (gain - 2 < -8)) 22] = cleanE gain limit samples gaps lines := by
  have hc : cleanE gain limit samples gaps lines = remE gain limit lines := by unfold cleanE; rw [if_neg (by simp [h])]
  rw [hc, firstE_four]
  unfold remE
  by_cases h1 : linesE lines = 0 <;> by_cases h2 : 2000000 < 20 * limit <;> by_cases h3 : gain - 2 < -8 <;> simp [errIf, h1, h2, h3]
theorem clean_frame {gain limit : Int} {samples : List (Int × Int)} {gaps : List Int} (lines : List Int) (h : (frameE gain limit samples gaps).2 ≠ 0) (b c d : Int) :
    firstE [(frameE gain limit samples gaps).2, b, c, d] = cleanE gain limit samples gaps lines := by
  rw [firstE_four, cleanE, if_pos h, if_pos h]
end Go.Proofs.YtnigmdkhecblnaaDoor
