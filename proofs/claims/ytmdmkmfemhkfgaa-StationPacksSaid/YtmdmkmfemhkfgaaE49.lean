/- Mathematics of packed series: there and back. -/
import Derived.Test.YtmdmkmfemhkfgaaE48
set_option linter.unusedSimpArgs false
set_option linter.unusedVariables false
set_option linter.unusedSimpArgs false
set_option linter.unusedVariables false
namespace Go.Proofs.Ytmdmkmfemhkfgaa
open Go.RowKit
set_option maxRecDepth 100000

theorem expand_runsFrom : ∀ (l : List Int) (y n : Int), 0 ≤ n → expand (runsFrom y n l) = List.replicate n.toNat y ++ l
  | [], y, n, _ => by simp [runsFrom, expand]
  | x :: l, y, n, hn => by
    rw [runsFrom]
    by_cases h : x = y
    · subst h
      rw [if_pos rfl, expand_runsFrom l x (n + 1) (by omega), show (n + 1).toNat = n.toNat + 1 by omega, List.replicate_succ', List.append_assoc]
      rfl
    · rw [if_neg h]
      have e : expand ((y, n) :: runsFrom x 1 l) = List.replicate n.toNat y ++ expand (runsFrom x 1 l) := by simp [expand]
      rw [e, expand_runsFrom l x 1 (by omega)]
      simp
theorem expand_runsL (l : List Int) : expand (runsL l) = l := by
  cases l with
  | nil => rfl
  | cons x l => rw [runsL, expand_runsFrom l x 1 (by omega)]; simp
theorem runsFrom_count : ∀ (l : List Int) (y n : Int), 1 ≤ n → ∀ g ∈ runsFrom y n l, 1 ≤ g.2 ∧ g.2 ≤ n + l.length
  | [], y, n, hn, g, hg => by simp [runsFrom] at hg; subst hg; simp; omega
  | x :: l, y, n, hn, g, hg => by
    rw [runsFrom] at hg
    by_cases h : x = y
    · rw [if_pos h] at hg
      have := runsFrom_count l y (n + 1) (by omega) g hg
      simp only [List.length_cons]
      omega
    · rw [if_neg h] at hg
      rcases List.mem_cons.1 hg with rfl | hg
      · simp only [List.length_cons]; omega
      · have := runsFrom_count l x 1 (by omega) g hg
        simp only [List.length_cons]
        omega
theorem runsL_count (l : List Int) : ∀ g ∈ runsL l, 1 ≤ g.2 ∧ g.2 ≤ l.length := by
  cases l with
  | nil => intro g hg; simp [runsL] at hg
  | cons x l =>
    intro g hg
    have := runsFrom_count l x 1 (by omega) g hg
    simp only [List.length_cons]
    omega
theorem sumF_diffs : ∀ (l : List Int) (b : Int), Within 1000000000 l → sumF b (diffs b l) = some l
  | [], _, _ => rfl
  | x :: l, b, h => by
    have hx := h x (by simp)
    rw [diffs, sumF, outB_false.2 (show -1000000000 - b ≤ x - b ∧ x - b ≤ 1000000000 - b by omega), if_neg Bool.false_ne_true, show b + (x - b) = x by omega,
      sumF_diffs l x (fun z hz => h z (by simp [hz]))]
    rfl
/-- The ways to pack, and that the one taken is as short as each. -/
theorem packR_cases (l : List Int) : (packR l = (0, l) ∨ packR l = (1, flat (runsL (diffs 0 l))) ∨ packR l = (2, flat (runsL l))) ∧ (packR l).2.length ≤ l.length ∧ (packR l).2.length ≤ (flat (runsL (diffs 0 l))).length ∧ (packR l).2.length ≤ (flat (runsL l)).length := by
  unfold packR
  by_cases h1 : (flat (runsL (diffs 0 l))).length < l.length
  · simp only [if_pos h1]
    by_cases h2 : (flat (runsL l)).length < (flat (runsL (diffs 0 l))).length
    · simp only [if_pos h2]
      exact ⟨.inr (.inr trivial), by omega, by omega, by omega⟩
    · simp only [if_neg h2]
      exact ⟨.inr (.inl trivial), by omega, by omega, by omega⟩
  · simp only [if_neg h1]
    by_cases h2 : (flat (runsL l)).length < l.length
    · simp only [if_pos h2]
      exact ⟨.inr (.inr trivial), by omega, by omega, by omega⟩
    · simp only [if_neg h2]
      exact ⟨.inl trivial, by omega, by omega, by omega⟩
/-- A series that grows evenly. -/
def evenL (a s : Int) (n : Nat) : List Int := (List.range n).map fun (i : Nat) => a + (i : Int) * s
theorem evenL_succ (a s : Int) (n : Nat) : evenL a s (n + 1) = evenL a s n ++ [a + (n : Int) * s] := by
  unfold evenL
  rw [List.range_succ, List.map_append]
  rfl
@[simp] theorem evenL_length (a s : Int) (n : Nat) : (evenL a s n).length = n := by simp [evenL]
theorem evenL_cons (a s : Int) (n : Nat) : evenL a s (n + 1) = a :: evenL (a + s) s n := by
  unfold evenL
  rw [List.range_succ_eq_map, List.map_cons, List.map_map]
  congr 1
  · simp
  · apply List.map_congr_left
    intro i _
    simp only [Function.comp]
    rw [show ((i.succ : Nat) : Int) = (i : Int) + 1 by omega, Int.add_mul]
    omega
theorem diffs_even (a s : Int) : ∀ (n : Nat) (b : Int), diffs b (evenL (b + s) s n) = List.replicate n s
  | 0, b => by simp [evenL, diffs]
  | n + 1, b => by
    rw [evenL_cons, diffs, diffs_even a s n (b + s), List.replicate_succ, show b + s - b = s by omega]
theorem runsFrom_rep : ∀ (k : Nat) (y n : Int), (runsFrom y n (List.replicate k y)).length = 1
  | 0, y, n => by simp [runsFrom]
  | k + 1, y, n => by rw [List.replicate_succ, runsFrom, if_pos rfl]; exact runsFrom_rep k y (n + 1)
theorem runsL_rep (k : Nat) (y : Int) : (runsL (List.replicate k y)).length ≤ 1 := by
  cases k with
  | zero => simp [runsL]
  | succ k => rw [List.replicate_succ, runsL, runsFrom_rep]; omega
theorem runsL_cons_rep (k : Nat) (x y : Int) : (runsL (x :: List.replicate k y)).length ≤ 2 := by
  rw [runsL]
  cases k with
  | zero => simp [runsFrom]
  | succ k =>
    rw [List.replicate_succ, runsFrom]
    by_cases h : y = x
    · subst h
      rw [if_pos rfl, runsFrom_rep]
      omega
    · rw [if_neg h, List.length_cons, runsFrom_rep]
      omega
theorem evenL_const (a : Int) (n : Nat) : evenL a 0 n = List.replicate n a := by
  unfold evenL
  rw [List.eq_replicate_iff]
  refine ⟨by simp, fun x hx => ?_⟩
  rw [List.mem_map] at hx
  obtain ⟨i, _, rfl⟩ := hx
  simp
theorem packR_even (a s : Int) (n : Nat) : (packR (evenL a s n)).2.length ≤ 4 ∧ (s = 0 → (packR (evenL a s n)).2.length ≤ 2) := by
  obtain ⟨_, h1, h2, h3⟩ := packR_cases (evenL a s n)
  constructor
  · have h4 : (runsL (diffs 0 (evenL a s n))).length ≤ 2 := by
      cases n with
      | zero => simp [evenL, diffs, runsL]
      | succ n =>
        rw [evenL_cons, diffs, diffs_even a s n a]
        exact runsL_cons_rep n _ _
    rw [flat_length] at h2
    omega
  · rintro rfl
    rw [evenL_const] at h3 ⊢
    have := runsL_rep n a
    rw [flat_length] at h3
    omega
theorem evenL_within {a s : Int} {n : Nat} (ha : -1000000 ≤ a ∧ a ≤ 1000000) (hs : -1000000 ≤ s ∧ s ≤ 1000000) (hn : n ≤ 200) : Within 1000000000 (evenL a s n) := by
  intro x hx
  unfold evenL at hx
  rw [List.mem_map] at hx
  obtain ⟨i, hi, rfl⟩ := hx
  rw [List.mem_range] at hi
  have h1 : (i : Int) * s ≤ 200 * 1000000 := by
    by_cases h : 0 ≤ s
    · exact Int.mul_le_mul (by omega) hs.2 h (by omega)
    · have : (i : Int) * s ≤ 0 := Int.mul_nonpos_of_nonneg_of_nonpos (by omega) (by omega)
      omega
  have h2 : -(200 * 1000000) ≤ (i : Int) * s := by
    by_cases h : 0 ≤ s
    · have : 0 ≤ (i : Int) * s := Int.mul_nonneg (by omega) h
      omega
    · have := Int.mul_le_mul (show (i : Int) ≤ 200 by omega) (show -s ≤ 1000000 by omega) (by omega) (by omega)
      rw [Int.mul_neg] at this
      omega
  omega
theorem serE_within {l : List Int} (hl : l.length ≤ 200) (h : Within 1000000000 l) : serE l = 0 :=
  serE_none hl fun j hj => outB_false.2 (h _ (List.getElem_mem hj))
end Go.Proofs.Ytmdmkmfemhkfgaa
