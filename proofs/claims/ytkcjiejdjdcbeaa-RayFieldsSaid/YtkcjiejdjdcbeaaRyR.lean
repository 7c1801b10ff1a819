/- Roots bit by bit, fractions compared. Plain numbers; no condition. -/
import Derived.Test.YtkcjiejdjdcbeaaFM
set_option linter.unusedSimpArgs false
set_option linter.unusedVariables false
namespace Go.Proofs.Ytkcjiejdjdcbeaa

/-- The bit that is tried when k are left. -/
def bitN : Nat → Nat
  | 0 => 0
  | k + 1 => 2 ^ k
theorem bitN_half (k : Nat) : bitN (k + 1) / 2 = bitN k := by
  cases k with
  | zero => rfl
  | succ k => simp only [bitN]; rw [Nat.pow_succ]; omega
theorem bitN_31 : bitN 31 = 1073741824 := rfl
/-- What holds when k bits are left. -/
structure RootAt (n r k : Nat) : Prop where
  low : r * r ≤ n
  high : n < (r + 2 ^ k) * (r + 2 ^ k)
  top : r + 2 ^ k ≤ 2147483648
theorem RootAt.start {n : Nat} (h : n ≤ 1152921504606846976) : RootAt n 0 31 := ⟨by omega, by simp; omega, by simp⟩
theorem RootAt.yes {n r k : Nat} (h : RootAt n r (k + 1)) (hb : (r + 2 ^ k) * (r + 2 ^ k) ≤ n) : RootAt n (r + 2 ^ k) k := by
  have e : r + 2 ^ k + 2 ^ k = r + 2 ^ (k + 1) := by rw [Nat.pow_succ]; omega
  exact ⟨hb, by rw [e]; exact h.high, by rw [e]; exact h.top⟩
theorem RootAt.no {n r k : Nat} (h : RootAt n r (k + 1)) (hb : ¬ (r + 2 ^ k) * (r + 2 ^ k) ≤ n) : RootAt n r k := by
  have e : r + 2 ^ k + 2 ^ k = r + 2 ^ (k + 1) := by rw [Nat.pow_succ]; omega
  exact ⟨h.low, by omega, by have := h.top; have := Nat.two_pow_pos k; omega⟩
theorem RootAt.done {n r : Nat} (h : RootAt n r 0) : rootN n = r := rootN_eq h.low (by have := h.high; simpa using this)
theorem RootAt.bd {n r k : Nat} (h : RootAt n r (k + 1)) : r + bitN (k + 1) ≤ 2147483648 := by
  have := h.top
  rw [Nat.pow_succ] at this
  simp only [bitN]
  omega

/-- Which of two numbers is greater. -/
def cmpI (a b : Int) : Int := if a < b then -1 else if b < a then 1 else 0
theorem cmpI_lt {a b : Int} (h : a < b) : cmpI a b = -1 := by unfold cmpI; rw [if_pos h]
theorem cmpI_gt {a b : Int} (h : b < a) : cmpI a b = 1 := by unfold cmpI; rw [if_neg (by omega), if_pos h]
theorem cmpI_eq {a b : Int} (h : a = b) : cmpI a b = 0 := by unfold cmpI; rw [if_neg (by omega), if_neg (by omega)]
theorem cmpI_sub (a b c : Int) : cmpI (a - c) (b - c) = cmpI a b := by unfold cmpI; simp only [Int.sub_lt_sub_right_iff]
theorem frac_lt {n d m k : Int} (hd : 0 < d) (hk : 0 < k) (h : n / d < m / k) : n * k < m * d := by
  have h1 : n < (n / d + 1) * d := (Int.ediv_lt_iff_lt_mul hd).1 (by omega)
  have h2 : m / k * k ≤ m := (Int.le_ediv_iff_mul_le hk).1 (Int.le_refl _)
  have h3 : n * k < (n / d + 1) * d * k := Int.mul_lt_mul_of_pos_right h1 hk
  have h4 : m / k * k * d ≤ m * d := Int.mul_le_mul_of_nonneg_right h2 (by omega)
  have h5 : (n / d + 1) * (d * k) ≤ m / k * (d * k) := Int.mul_le_mul_of_nonneg_right (by omega) (Int.mul_nonneg (by omega) (by omega))
  have e1 : (n / d + 1) * d * k = (n / d + 1) * (d * k) := Int.mul_assoc _ _ _
  have e2 : m / k * k * d = m / k * (d * k) := by rw [Int.mul_assoc, Int.mul_comm k d]
  omega
theorem rest_eq (n d : Int) : n - n / d * d = n % d := by
  have := Int.mul_ediv_add_emod n d
  rw [Int.mul_comm d] at this
  omega
/-- A step of the comparison of two fractions with the same whole part. -/
theorem cmp_rest {n d m k : Int} (h : n / d = m / k) : cmpI (n * k) (m * d) = cmpI (n % d * k) (m % k * d) := by
  have e1 : n % d * k = n * k - n / d * (d * k) := by rw [← rest_eq, Int.sub_mul, Int.mul_assoc]
  have e2 : m % k * d = m * d - n / d * (d * k) := by rw [← rest_eq, Int.sub_mul, Int.mul_assoc, h, Int.mul_comm k d]
  rw [e1, e2, cmpI_sub]
theorem cmp_swap (n d m k : Int) : cmpI (k * n) (d * m) = cmpI (n * k) (m * d) := by rw [Int.mul_comm k, Int.mul_comm d]
theorem up_neg {n d : Int} (hd : 0 < d) : -((-n) / d) = up n d := by
  have h1 : ∀ m, up n d ≤ m ↔ -((-n) / d) ≤ m := fun m => by
    rw [up_le hd]
    have := Int.le_ediv_iff_mul_le (a := -m) (b := -n) hd
    rw [Int.neg_mul] at this
    omega
  have h2 := (h1 (up n d)).1 (Int.le_refl _)
  have h3 := (h1 (-((-n) / d))).2 (Int.le_refl _)
  omega
theorem tdiv_floor {n d : Int} (hd : 0 < d) : n / d = if n.tmod d < 0 then n.tdiv d - 1 else n.tdiv d := by
  have h1 := Int.mul_tdiv_add_tmod n d
  have h2 := Int.tmod_lt_of_pos n hd
  have h3 : -d < n.tmod d := by
    rcases Int.le_total 0 n with h | h
    · have := Int.tmod_nonneg d h; omega
    · have := Int.tmod_lt_of_pos (-n) hd
      rw [Int.neg_tmod] at this
      omega
  rw [Int.mul_comm] at h1
  split
  · refine (Int.ediv_eq_iff_of_pos hd).2 ?_
    rw [Int.sub_mul]
    constructor <;> omega
  · refine (Int.ediv_eq_iff_of_pos hd).2 ?_
    constructor <;> omega
end Go.Proofs.Ytkcjiejdjdcbeaa
