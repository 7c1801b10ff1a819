/- The powers of harmonics as plain sums; their bounds. No condition. -/
import Derived.Test.YtmedjedmeggbpaaDoorW11
import Derived.Test.YtmedjedmeggbpaaDoorW18
namespace Go.Proofs.YtmedjedmeggbpaaDoor

theorem gle_mulTurn {M : Int} {g : Int × Int} {k : Nat} (h : gle M g) (hk : k < 4) : gle M (gmul g (turnG k)) := by
  obtain ⟨a, b⟩ := g
  obtain ⟨h1, h2, h3, h4⟩ := h
  dsimp only at h1 h2 h3 h4
  have e : k = 0 ∨ k = 1 ∨ k = 2 ∨ k = 3 := by omega
  rcases e with rfl | rfl | rfl | rfl <;> (simp [gle, gmul, turnG, tabL]; omega)
theorem gle_add {M N : Int} {g h : Int × Int} (hg : gle M g) (hh : gle N h) : gle (M + N) (gadd g h) := by
  obtain ⟨g1, g2, g3, g4⟩ := hg
  obtain ⟨h1, h2, h3, h4⟩ := hh
  simp only [gle, gadd]; omega
theorem gle_harm {M : Int} {L : List (Int × Int)} (h : ∀ q, gle M (L.getD q (0, 0))) (n : Int) : ∀ k : Nat, gle (k * M) (harmN L n k)
  | 0 => by simp [gle, harmN]
  | k + 1 => by
    have e : ((k + 1 : Nat) : Int) * M = (k : Int) * M + M := by rw [Int.natCast_succ, Int.add_mul, Int.one_mul]
    rw [e]
    exact gle_add (gle_harm h n k) (gle_mulTurn (h k) (by omega))

/-- The samples of a block. -/
def blk4 (samples : List (Int × Int)) (j : Nat) : List (Int × Int) := [samples.getD (4 * j) (0, 0), samples.getD (4 * j + 1) (0, 0), samples.getD (4 * j + 2) (0, 0), samples.getD (4 * j + 3) (0, 0)]
/-- The harmonic of a block, and its power. -/
def harmB (samples : List (Int × Int)) (j n : Nat) : Int × Int := harmN (blk4 samples j) n 4
def pw (samples : List (Int × Int)) (j n : Nat) : Int := (harmB samples j n).1 * (harmB samples j n).1 + (harmB samples j n).2 * (harmB samples j n).2

theorem gle_getD {M : Int} {samples : List (Int × Int)} (hM : 0 ≤ M) (h : ∀ g ∈ samples, gle M g) (i : Nat) : gle M (samples.getD i (0, 0)) := by
  by_cases hi : i < samples.length
  · rw [show samples.getD i (0, 0) = samples[i] from by simp [List.getD, hi]]
    exact h _ (List.getElem_mem hi)
  · rw [show samples.getD i (0, 0) = (0, 0) from by simp [List.getD, hi]]
    simp only [gle]; omega
theorem gle_blk4 {M : Int} {samples : List (Int × Int)} (hM : 0 ≤ M) (h : ∀ g ∈ samples, gle M g) (j q : Nat) : gle M ((blk4 samples j).getD q (0, 0)) := by
  have hz : gle M ((0, 0) : Int × Int) := by simp only [gle]; omega
  match q with
  | 0 => exact gle_getD hM h _
  | 1 => exact gle_getD hM h _
  | 2 => exact gle_getD hM h _
  | 3 => exact gle_getD hM h _
  | q + 4 => exact hz
theorem sq_bd {x B : Int} (h1 : -B ≤ x) (h2 : x ≤ B) : 0 ≤ x * x ∧ x * x ≤ B * B := by
  refine ⟨?_, ?_⟩
  · rcases Int.le_total 0 x with h | h
    · exact Int.mul_nonneg h h
    · exact Int.mul_nonneg_of_nonpos_of_nonpos h h
  · have hB : 0 ≤ B := by omega
    have h3 : 0 ≤ (B - x) * (B + x) := Int.mul_nonneg (by omega) (by omega)
    have e : (B - x) * (B + x) = B * B - x * x := by rw [Int.sub_mul, Int.mul_add, Int.mul_add, Int.mul_comm x B]; omega
    omega
theorem harmB_bd {samples : List (Int × Int)} (h : ∀ g ∈ samples, gle 2000000 g) (j n : Nat) : gle 8000000 (harmB samples j n) := by
  have := gle_harm (gle_blk4 (by omega) h j) n 4
  exact this
theorem pw_bd {samples : List (Int × Int)} (h : ∀ g ∈ samples, gle 2000000 g) (j n : Nat) : 0 ≤ pw samples j n ∧ pw samples j n ≤ 128000000000000 := by
  obtain ⟨h1, h2, h3, h4⟩ := harmB_bd h j n
  have k1 := sq_bd h1 h2
  have k2 := sq_bd h3 h4
  unfold pw
  omega

/-- The power of a harmonic over some blocks of a frame. -/
def pwSum (samples : List (Int × Int)) (js : List Nat) (n : Nat) : Int := (js.map fun j => pw samples j n).sum
theorem pwSum_snoc (samples : List (Int × Int)) (js : List Nat) (j n : Nat) : pwSum samples (js ++ [j]) n = pwSum samples js n + pw samples j n := by simp [pwSum]
theorem pwSum_bd {samples : List (Int × Int)} (h : ∀ g ∈ samples, gle 2000000 g) (n : Nat) : ∀ js : List Nat, 0 ≤ pwSum samples js n ∧ pwSum samples js n ≤ 128000000000000 * js.length
  | [] => by simp [pwSum]
  | j :: js => by
    have h1 := pw_bd h j n
    have h2 := pwSum_bd h n js
    have e : pwSum samples (j :: js) n = pw samples j n + pwSum samples js n := by simp [pwSum]
    rw [e, List.length_cons]
    omega
theorem blockNs_length (us : List Bool) (m : Nat) : (blockNs us m).length ≤ m := by
  have := List.length_filter_le (fun j => allU us (4 * j)) (List.range m)
  simpa [blockNs] using this
end Go.Proofs.YtmedjedmeggbpaaDoor
