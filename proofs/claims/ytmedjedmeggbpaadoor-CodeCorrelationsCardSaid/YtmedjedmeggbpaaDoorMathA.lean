/- The reference's correlation and side lobe are those of the program: plain sums. No condition but equal lengths. -/
import Derived.Test.YtmedjedmeggbpaaDoorW24
namespace Go.Proofs.YtmedjedmeggbpaaDoor
open Go.RowKit

/-- The reference's sum over the first numbers of b. -/
def corrRTo (a b : List Int) (lag : Int) : Nat → Int
  | 0 => 0
  | i + 1 => if outB ((i : Int) + lag) 0 ((a.length : Int) - 1) = false then corrRTo a b lag i + a.getD ((i : Int) + lag).toNat 0 * b.getD i 0 else corrRTo a b lag i

theorem getD_out {l : List Int} {k : Nat} (h : l.length ≤ k) : l.getD k 0 = 0 := by simp [List.getD, h]

theorem corrRTo_nat (a b : List Int) (m k : Nat) : corrRTo a b m k = corrTo a b m k := by
  induction k with
  | zero => rfl
  | succ k ih =>
    simp only [corrRTo, corrTo, ih]
    split
    · rename_i h
      rw [show ((k : Int) + (m : Int)).toNat = k + m from by omega]
    · rename_i h
      have h2 : ¬ ((0 : Int) ≤ (k : Int) + m ∧ (k : Int) + m ≤ (a.length : Int) - 1) := fun h3 => h (outB_false.2 h3)
      rw [getD_out (l := a) (by omega)]
      omega
theorem corrTo_past (a b : List Int) (m j : Nat) : corrTo a b m (a.length - m + j) = corrTo a b m (a.length - m) := by
  induction j with
  | zero => rfl
  | succ j ih =>
    rw [← Nat.add_assoc]
    simp only [corrTo]
    rw [ih, getD_out (l := a) (by omega)]
    omega
theorem corrRTo_low (a b : List Int) (m k : Nat) (h : k ≤ m) : corrRTo a b (-(m : Int)) k = 0 := by
  induction k with
  | zero => rfl
  | succ k ih =>
    have h1 : outB ((k : Int) + -(m : Int)) 0 ((a.length : Int) - 1) = true := outB_true.2 (.inl (by omega))
    simp only [corrRTo, h1]
    exact ih (by omega)
theorem corrRTo_neg (a b : List Int) (m j : Nat) (h : m + j ≤ b.length) (hab : a.length = b.length) : corrRTo a b (-(m : Int)) (m + j) = corrTo b a m j := by
  induction j with
  | zero => exact corrRTo_low a b m m (Nat.le_refl _)
  | succ j ih =>
    have h1 : outB (((m + j : Nat) : Int) + -(m : Int)) 0 ((a.length : Int) - 1) = false := outB_false.2 ⟨by omega, by omega⟩
    rw [← Nat.add_assoc]
    simp only [corrRTo, corrTo]
    rw [if_pos h1, ih (by omega), show (((m + j : Nat) : Int) + -(m : Int)).toNat = j from by omega, Nat.add_comm m j, Int.mul_comm]
theorem corrRTo_eq (a b : List Int) (lag : Int) (hab : a.length = b.length) (h1 : -(a.length : Int) ≤ lag) (h2 : lag ≤ a.length) : corrRTo a b lag b.length = corr a b lag := by
  unfold corr
  by_cases hn : lag < 0
  · obtain ⟨m, rfl⟩ : ∃ m : Nat, lag = -(m : Int) := ⟨(-lag).toNat, by omega⟩
    rw [if_pos hn, Int.neg_neg, Int.toNat_natCast]
    have h := corrRTo_neg a b m (b.length - m) (by omega) hab
    rw [show m + (b.length - m) = b.length from by omega] at h
    rw [h]; rfl
  · obtain ⟨m, rfl⟩ : ∃ m : Nat, lag = (m : Int) := ⟨lag.toNat, by omega⟩
    rw [if_neg hn, Int.toNat_natCast, corrRTo_nat]
    have h := corrTo_past a b m m
    rw [show a.length - m + m = b.length from by omega] at h
    rw [h]; rfl
theorem corrRTo_bd {a b : List Int} (ha : Small a) (hb : Small b) (lag : Int) (k : Nat) : -(k : Int) ≤ corrRTo a b lag k ∧ corrRTo a b lag k ≤ k := by
  induction k with
  | zero => simp [corrRTo]
  | succ k ih =>
    simp only [corrRTo]
    split
    · have h1 := ha.at_ ((k : Int) + lag).toNat
      have h2 := hb.at_ k
      have h3 := small_mul h1.1 h1.2 h2.1 h2.2
      omega
    · omega
end Go.Proofs.YtmedjedmeggbpaaDoor
