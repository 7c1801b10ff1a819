/- The sums of two lines: what they are, and what is known of lines without fault. -/
import Derived.Test.YthkmeaibppkhmaaDoorR13
namespace Go.Proofs.YthkmeaibppkhmaaDoor
open Go.RowKit
set_option maxRecDepth 100000

theorem lineE_zero {vals : List (Int × Int)} {miss : List Int} (h : lineE vals miss = 0) : miss.length = vals.length ∧ 1 ≤ vals.length ∧ vals.length ≤ 64 ∧ ∀ k (hk : k < vals.length), lineItem miss k vals[k] = 0 := by
  unfold lineE at h
  by_cases h0 : lineHd vals.length miss.length = 0
  · rw [if_pos h0] at h
    rcases lineHd_zero h0 with ⟨h1, h2, h3⟩ | h1
    · exact ⟨by omega, by omega, by omega, fun k hk => by simpa using firstBadFrom_zero h k hk⟩
    · omega
  · rw [if_neg h0] at h; exact absurd h h0

theorem lineItem_zero {miss : List Int} {k : Nat} {g : Int × Int} (h : lineItem miss k g = 0) : (-1000000000 ≤ g.1 ∧ g.1 ≤ 1000000000 ∧ -1000000000 ≤ g.2 ∧ g.2 ≤ 1000000000) ∧ 0 ≤ miss.getD k 0 ∧ miss.getD k 0 ≤ 64 := by
  unfold lineItem errIf at h
  cases hb : beyB g 1000000000
  · cases ho : outB (miss.getD k 0) 0 64
    · obtain ⟨x, y⟩ := g
      simp only [beyB, Bool.or_eq_false_iff] at hb
      obtain ⟨h1, h2⟩ := hb
      have h1 := outB_false.1 h1
      have h2 := outB_false.1 h2
      have h3 := outB_false.1 ho
      exact ⟨⟨h1.1, h1.2, h2.1, h2.2⟩, h3.1, h3.2⟩
    · rw [hb, ho] at h; simp at h
  · rw [hb] at h; simp at h

theorem combE_zero {va vb : List (Int × Int)} {ma mb : List Int} (h : combE va vb ma mb = 0) : lineE va ma = 0 ∧ lineE vb mb = 0 ∧ va.length = vb.length := by
  unfold combE firstE at h
  by_cases h1 : lineE va ma = 0
  · rw [if_pos h1] at h
    unfold firstE at h
    by_cases h2 : lineE vb mb = 0
    · rw [if_pos h2] at h
      refine ⟨h1, h2, ?_⟩
      by_cases h3 : va.length = vb.length
      · exact h3
      · have e : ((va.length : Int) != vb.length) = true := by simp; omega
        rw [e] at h; simp [firstE, errIf] at h
    · rw [if_neg h2] at h; exact absurd h h2
  · rw [if_neg h1] at h; exact absurd h h1

/-- The sum at a lag, the samples missing there, and whether one of the two is too large. -/
def sumK (va vb : List (Int × Int)) (k : Nat) : Int × Int := gadd (va.getD k (0, 0)) (vb.getD k (0, 0))
def missK (ma mb : List Int) (k : Nat) : Int := ma.getD k 0 + mb.getD k 0
def bigK (va vb : List (Int × Int)) (ma mb : List Int) (k : Nat) : Bool := beyB (sumK va vb k) 1000000000 || decide (64 < missK ma mb k)
def sumV (va vb : List (Int × Int)) (n : Nat) : List (Int × Int) := (List.range n).map (sumK va vb)
def sumM (ma mb : List Int) (n : Nat) : List Int := (List.range n).map (missK ma mb)
def bigB (va vb : List (Int × Int)) (ma mb : List Int) (n : Nat) : Bool := (List.range n).any (bigK va vb ma mb)
theorem sumV_length (va vb : List (Int × Int)) (n : Nat) : (sumV va vb n).length = n := by simp [sumV]
theorem sumM_length (ma mb : List Int) (n : Nat) : (sumM ma mb n).length = n := by simp [sumM]
theorem sumV_succ (va vb : List (Int × Int)) (n : Nat) : sumV va vb (n + 1) = sumV va vb n ++ [sumK va vb n] := by simp [sumV, List.range_succ]
theorem sumM_succ (ma mb : List Int) (n : Nat) : sumM ma mb (n + 1) = sumM ma mb n ++ [missK ma mb n] := by simp [sumM, List.range_succ]
theorem bigB_at {va vb : List (Int × Int)} {ma mb : List Int} {n k : Nat} (hk : k < n) (h : bigK va vb ma mb k = true) : bigB va vb ma mb n = true := by
  simp only [bigB, List.any_eq_true, List.mem_range]
  exact ⟨k, hk, h⟩
theorem bigB_none {va vb : List (Int × Int)} {ma mb : List Int} {n : Nat} (h : ∀ k, k < n → bigK va vb ma mb k = false) : bigB va vb ma mb n = false := by
  simp only [bigB, List.any_eq_false, List.mem_range]
  intro k hk
  simp [h k hk]
end Go.Proofs.YthkmeaibppkhmaaDoor
