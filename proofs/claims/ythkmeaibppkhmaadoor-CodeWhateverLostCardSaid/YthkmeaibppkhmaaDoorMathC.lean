/- Levels: squares around a number, plain. No condition but those that each says. -/
import Derived.Test.YthkmeaibppkhmaaDoorMF
namespace Go.Proofs.YthkmeaibppkhmaaDoor
theorem sq_nonneg' (x : Int) : 0 ≤ x * x := by
  rcases Int.le_total 0 x with h | h
  · exact Int.mul_nonneg h h
  · have := Int.mul_nonneg (show 0 ≤ -x by omega) (show 0 ≤ -x by omega); rwa [Int.neg_mul_neg] at this
theorem sq_le {x m : Int} (h0 : 0 ≤ x) (h : x ≤ m) : x * x ≤ m * m := Int.mul_le_mul h h h0 (by omega)
theorem sq_neg (x : Int) : -x * -x = x * x := Int.neg_mul_neg x x

/-- The size of a number, the squares around it. -/
def szI (n : Int) : Int := if n < -n then -n else n
theorem szI_nonneg (n : Int) : 0 ≤ szI n := by unfold szI; split <;> omega
def leI (n d : Int) : Int := if szI n - d < 0 then 0 else szI n - d
def loS (n d : Int) : Int := leI n d * leI n d
def hiS (n d : Int) : Int := (szI n + d) * (szI n + d)
def loR (lo hi : Int) : Int := if lo ≤ 0 ∧ 0 ≤ hi then 0 else if hi * hi < lo * lo then hi * hi else lo * lo
def hiR (lo hi : Int) : Int := if lo * lo < hi * hi then hi * hi else lo * lo
theorem loR_eq (n d : Int) (hd : 0 ≤ d) : loR (n - d) (n + d) = loS n d := by
  unfold loR loS leI szI
  by_cases h : n < -n
  · simp only [if_pos h]
    by_cases hz : -n - d < 0
    · rw [if_pos hz, if_pos (by omega)]; rfl
    · rw [if_neg hz]
      by_cases hc : n - d ≤ 0 ∧ 0 ≤ n + d
      · rw [if_pos hc]
        have : -n - d = 0 := by omega
        rw [this]; rfl
      · rw [if_neg hc]
        have e : (n + d) * (n + d) = (-n - d) * (-n - d) := by rw [← sq_neg (n + d)]; congr 1 <;> omega
        have e2 : (n - d) * (n - d) = (-n + d) * (-n + d) := by rw [← sq_neg (n - d)]; congr 1 <;> omega
        rw [e, e2]
        have := sq_le (x := -n - d) (m := -n + d) (by omega) (by omega)
        split
        · rfl
        · omega
  · simp only [if_neg h]
    by_cases hz : n - d < 0
    · rw [if_pos hz, if_pos (by omega)]; rfl
    · rw [if_neg hz]
      by_cases hc : n - d ≤ 0 ∧ 0 ≤ n + d
      · rw [if_pos hc]
        have : n - d = 0 := by omega
        rw [this]; rfl
      · rw [if_neg hc]
        have := sq_le (x := n - d) (m := n + d) (by omega) (by omega)
        split
        · omega
        · rfl
theorem hiR_eq (n d : Int) (hd : 0 ≤ d) : hiR (n - d) (n + d) = hiS n d := by
  unfold hiR hiS szI
  by_cases h : n < -n
  · simp only [if_pos h]
    have e2 : (n - d) * (n - d) = (-n + d) * (-n + d) := by rw [← sq_neg (n - d)]; congr 1 <;> omega
    rw [e2]
    by_cases hs : 0 ≤ n + d
    · have := sq_le (x := n + d) (m := -n + d) (by omega) (by omega)
      split <;> omega
    · have e : (n + d) * (n + d) = (-n - d) * (-n - d) := by rw [← sq_neg (n + d)]; congr 1 <;> omega
      have := sq_le (x := -n - d) (m := -n + d) (by omega) (by omega)
      rw [e]
      split <;> omega
  · simp only [if_neg h]
    by_cases hs : 0 ≤ n - d
    · have := sq_le (x := n - d) (m := n + d) (by omega) (by omega)
      split <;> omega
    · have e : (n - d) * (n - d) = (d - n) * (d - n) := by rw [← sq_neg (n - d)]; congr 1 <;> omega
      have := sq_le (x := d - n) (m := n + d) (by omega) (by omega)
      rw [e]
      split <;> omega
theorem szI_le {n m : Int} (h1 : -m ≤ n) (h2 : n ≤ m) : szI n ≤ m := by unfold szI; split <;> omega
theorem sqv_bd {x m : Int} (h1 : -m ≤ x) (h2 : x ≤ m) : 0 ≤ x * x ∧ x * x ≤ m * m := by
  refine ⟨sq_nonneg' x, ?_⟩
  rcases Int.le_total 0 x with h | h
  · exact sq_le h h2
  · rw [← sq_neg x]; exact sq_le (by omega) (by omega)
theorem leI_bd {n d : Int} (hd : 0 ≤ d) : 0 ≤ leI n d ∧ leI n d ≤ szI n := by
  have := szI_nonneg n
  unfold leI; split <;> omega
end Go.Proofs.YthkmeaibppkhmaaDoor
