/- Frames as plain data: their error, which samples are usable. No condition. -/
import Derived.Test.YtmedjedmeggbpaaDoorSpec
namespace Go.Proofs.YtmedjedmeggbpaaDoor

/-- A part of a number beyond a limit. -/
def beyB (g : G) (limit : Int) : Bool := outB g.1 (-limit) limit || outB g.2 (-limit) limit
def sampleE (limit : Int) (g : G) : Int := errIf (beyB g limit) 2
def gapE (n : Nat) (gaps : List Int) (k : Nat) (gap : Int) : Int := firstE [errIf (outB gap 0 ((n : Int) - 1)) 6, errIf (decide (0 < k) && decide (gap ≤ gaps.getD (k - 1) 0)) 9]
/-- The error of what precedes the samples. -/
def headE (gain limit : Int) (n : Nat) : Int := firstE [errIf (outB gain (-8) 8) 2, errIf (outB limit 1 2000000) 2, lenE n 64]
/-- The index and the error of a frame. -/
def frameE (gain limit : Int) (samples : List G) (gaps : List Int) : Int × Int :=
  if headE gain limit samples.length = 0 then
    if (firstBadFrom (fun _ g => sampleE limit g) 0 samples).2 = 0 then firstBadFrom (gapE samples.length gaps) 0 gaps
    else firstBadFrom (fun _ g => sampleE limit g) 0 samples
  else (0, headE gain limit samples.length)

theorem headE_zero {gain limit : Int} {n : Nat} (h : headE gain limit n = 0) : -8 ≤ gain ∧ gain ≤ 8 ∧ 1 ≤ limit ∧ limit ≤ 2000000 ∧ 1 ≤ n ∧ n ≤ 64 := by
  unfold headE at h
  cases h1 : outB gain (-8) 8
  · cases h2 : outB limit 1 2000000
    · rw [h1, h2] at h
      simp only [firstE, errIf, Bool.false_eq_true, if_false, if_true] at h
      have h3 : lenE n 64 = 0 := by
        by_cases h3 : lenE n 64 = 0
        · exact h3
        · rw [if_neg h3] at h; exact h
      rw [lenE_eq] at h3
      have g1 := outB_false.1 h1
      have g2 := outB_false.1 h2
      refine ⟨g1.1, g1.2, g2.1, g2.2, ?_, ?_⟩
      · split at h3 <;> omega
      · split at h3
        · omega
        · split at h3 <;> omega
    · rw [h1, h2] at h; simp [firstE, errIf] at h
  · rw [h1] at h; simp [firstE, errIf] at h

theorem firstBadFrom_zero {α : Type} {chk : Nat → α → Int} {l : List α} {k : Nat} (h : (firstBadFrom chk k l).2 = 0) : ∀ i (hi : i < l.length), chk (k + i) l[i] = 0 := by
  intro i
  induction i using Nat.strongRecOn with
  | _ i ih =>
    intro hi
    by_cases hz : chk (k + i) l[i] = 0
    · exact hz
    · have := firstBadFrom_some chk l k i hi (fun j hj => ih j hj (by omega)) hz
      rw [this] at h
      exact h
theorem sampleE_zero {limit : Int} {g : G} (h : sampleE limit g = 0) : -limit ≤ g.1 ∧ g.1 ≤ limit ∧ -limit ≤ g.2 ∧ g.2 ≤ limit := by
  unfold sampleE beyB at h
  cases h1 : outB g.1 (-limit) limit
  · cases h2 : outB g.2 (-limit) limit
    · have g1 := outB_false.1 h1
      have g2 := outB_false.1 h2
      exact ⟨g1.1, g1.2, g2.1, g2.2⟩
    · rw [h1, h2] at h; simp [errIf] at h
  · rw [h1] at h; simp [errIf] at h
theorem gapE_zero {n : Nat} {gaps : List Int} {k : Nat} {gap : Int} (h : gapE n gaps k gap = 0) : 0 ≤ gap ∧ gap ≤ (n : Int) - 1 := by
  unfold gapE at h
  cases h1 : outB gap 0 ((n : Int) - 1)
  · exact outB_false.1 h1
  · rw [h1] at h; simp [firstE, errIf] at h

/-- What a valid frame is. -/
theorem frameE_zero {gain limit : Int} {samples : List G} {gaps : List Int} (h : (frameE gain limit samples gaps).2 = 0) :
    headE gain limit samples.length = 0 ∧ (∀ g ∈ samples, -limit ≤ g.1 ∧ g.1 ≤ limit ∧ -limit ≤ g.2 ∧ g.2 ≤ limit) ∧ ∀ x ∈ gaps, 0 ≤ x ∧ x < samples.length := by
  unfold frameE at h
  by_cases h1 : headE gain limit samples.length = 0
  · rw [if_pos h1] at h
    by_cases h2 : (firstBadFrom (fun _ g => sampleE limit g) 0 samples).2 = 0
    · rw [if_pos h2] at h
      refine ⟨h1, fun g hg => ?_, fun x hx => ?_⟩
      · obtain ⟨i, hi, rfl⟩ := List.getElem_of_mem hg
        exact sampleE_zero (firstBadFrom_zero h2 i hi)
      · obtain ⟨i, hi, rfl⟩ := List.getElem_of_mem hx
        have := gapE_zero (firstBadFrom_zero h i hi)
        omega
    · rw [if_neg h2] at h; exact absurd h h2
  · rw [if_neg h1] at h; exact absurd h h1

/-- Whether sample number i of a valid frame is usable. -/
def usableB (limit : Int) (samples : List G) (gaps : List Int) (i : Nat) : Bool := !(beyB (samples.getD i (0, 0)) (limit - 1)) && !(gaps.contains (i : Int))
end Go.Proofs.YtmedjedmeggbpaaDoor
