/- Contracts: Euclid's algorithm twice, the whole part of a fraction, the comparison of two fractions. -/
import Derived.Test.YtnigmdkhecblnaaDoorP8
set_option linter.unusedSimpArgs false
set_option linter.unusedVariables false
namespace Go.Proofs.YtnigmdkhecblnaaDoor
open Go.RowKit
set_option maxRecDepth 100000

/-- Euclid's algorithm on remainders that may be negative, with so many steps at most. -/
def euc : Nat → Int → Int → Int
  | 0, a, _ => a
  | n + 1, a, b => if b = 0 then a else euc n b (a.tmod b)
/-- What is left at its end. -/
def eu (a b : Int) : Int := euc (b.natAbs + 1) a b
theorem euc_more : ∀ (n m : Nat) (a b : Int), b.natAbs < n → n ≤ m → euc m a b = euc n a b
  | 0, _, _, _, h, _ => by omega
  | n + 1, 0, _, _, _, h => by omega
  | n + 1, m + 1, a, b, h, hm => by
    show (if b = 0 then a else euc m b (a.tmod b)) = (if b = 0 then a else euc n b (a.tmod b))
    by_cases hb : b = 0
    · rw [if_pos hb, if_pos hb]
    · rw [if_neg hb, if_neg hb]
      have h1 : (a.tmod b).natAbs < b.natAbs := by
        rw [Int.natAbs_tmod]
        exact Nat.mod_lt _ (by omega)
      exact euc_more n m b (a.tmod b) (by omega) (by omega)
theorem eu_zero (a : Int) : eu a 0 = a := rfl
theorem eu_step {a b : Int} (h : b ≠ 0) : eu a b = eu b (a.tmod b) := by
  have h1 : (a.tmod b).natAbs < b.natAbs := by
    rw [Int.natAbs_tmod]
    exact Nat.mod_lt _ (by omega)
  show (if b = 0 then a else euc b.natAbs b (a.tmod b)) = _
  rw [if_neg h]
  exact euc_more _ _ _ _ (by omega) (by omega)

theorem coprime_c (a b : Int) (w : World) : Calls Tryd.prog 74 #[.int .i64 a, .int .i64 b] w fun r w' => r = .returned (.bool (decide (eu a b = 1 ∨ eu a b = -1))) ∧ Below w.heap.size w w' := by
  go_enter Tryd.func74, Tryd.ntmps74
  go_wp2
  go_loopw [0, 1] (fun x y wr => ∃ p q : Int, x = .int .i64 p ∧ y = .int .i64 q ∧ eu p q = eu a b ∧ Below w.heap.size w wr) (fun _ y _ => (intOf y).natAbs)
  case atStart => exact ⟨a, b, rfl, rfl, rfl, Below.refl _ _⟩
  case round =>
    obtain ⟨p, q, rfl, rfl, he, hbr⟩ := hrel
    by_cases hq : q = 0
    · subst hq
      have HE : Hid (decide (eu a b = 1 ∨ eu a b = -1) = (p == 1 || p == -1)) := by
        show _ = _
        rw [← he, eu_zero]
        by_cases h1 : p = 1 <;> by_cases h2 : p = -1 <;> simp [h1, h2]
      clear he
      by_cases h1 : p = 1
      · subst h1
        go_wp2
        go_ret
        exact ⟨by rw [HE.out]; rfl, hbr⟩
      · have e1 : (p == 1) = false := by simpa using h1
        go_wp2
        go_ret
        exact ⟨by rw [HE.out, e1]; rfl, hbr⟩
    · have e1 : (q != 0) = true := by simpa using hq
      have h1 : (p.tmod q).natAbs < q.natAbs := by
        rw [Int.natAbs_tmod]
        exact Nat.mod_lt _ (by omega)
      have H : Hid (eu q (p.tmod q) = eu a b) := by show _ = _; rw [← he, ← eu_step hq]
      clear he
      go_upto_region 2 with fail
      go_quiet (fail)
      go_wp2
      go_roundw
      case rel => exact ⟨q, p.tmod q, rfl, rfl, H.out, below_drewN hbr _⟩
      case measure => simpa [intOf] using h1

theorem size1_c (n : Int) (w : World) (h1 : -9223372036854775808 ≤ n) (h2 : n ≤ 9223372036854775807) : Calls Tryd.prog 54 #[.int .i64 n] w fun r w' => (∃ s : Int, r = .returned (.int .i64 s) ∧ (s = 1 ↔ n = 1 ∨ n = -1)) ∧ w = w' := by
  by_cases h : n = -9223372036854775808
  · subst h
    go_enter Tryd.func54, Tryd.ntmps54
    go_wp2
    go_ret
    exact ⟨⟨_, rfl, by rw [show wrap64 9223372036854775808 = -9223372036854775808 from by unfold wrap64; omega]; omega⟩, rfl⟩
  · refine (size_c n w (by omega) h2).mono ?_
    rintro e w' ⟨rfl, hw⟩
    refine ⟨⟨_, rfl, ?_⟩, hw⟩
    split <;> omega

/-- Which of two fractions is greater. -/
def cmpS (n d m k : Int) : Int := if n * k < m * d then -1 else if m * d < n * k then 1 else 0
theorem cmpS_lt {n d m k : Int} (hd : 1 ≤ d) (hk : 1 ≤ k) (h : n / d < m / k) : cmpS n d m k = -1 := by
  unfold cmpS
  rw [if_pos]
  have h1 : n < (n / d + 1) * d := by
    have := Int.emod_lt_of_pos n (show 0 < d by omega)
    have e := Int.mul_ediv_add_emod n d
    rw [Int.add_mul, Int.one_mul, Int.mul_comm]; omega
  have h2 : m / k * k ≤ m := Int.ediv_mul_le m (by omega)
  have h3 : (n / d + 1) * d ≤ m / k * d := Int.mul_le_mul_of_nonneg_right (by omega) (by omega)
  have h4 : n * k < m / k * d * k := Int.mul_lt_mul_of_pos_right (by omega) (by omega)
  have h5 : m / k * k * d ≤ m * d := Int.mul_le_mul_of_nonneg_right h2 (by omega)
  have h6 : m / k * d * k = m / k * k * d := by rw [Int.mul_assoc, Int.mul_comm d k, ← Int.mul_assoc]
  omega
theorem cmpS_swap (n d m k : Int) : cmpS m k n d = -cmpS n d m k := by
  unfold cmpS
  by_cases h1 : n * k < m * d
  · rw [if_neg (by omega), if_pos h1, if_pos h1]; rfl
  · by_cases h2 : m * d < n * k
    · rw [if_pos h2, if_neg h1, if_pos h2]
    · rw [if_neg h2, if_neg h1, if_neg h1, if_neg h2]; rfl
theorem cmpS_gt {n d m k : Int} (hd : 1 ≤ d) (hk : 1 ≤ k) (h : m / k < n / d) : cmpS n d m k = 1 := by
  have := cmpS_lt hk hd h
  rw [cmpS_swap] at this
  omega
theorem cmpS_rest {n d m k : Int} (h : n / d = m / k) : cmpS n d m k = cmpS (n - n / d * d) d (m - m / k * k) k := by
  unfold cmpS
  rw [Int.sub_mul, Int.sub_mul]
  have e : n / d * d * k = m / k * k * d := by rw [h, Int.mul_assoc, Int.mul_comm d k, ← Int.mul_assoc]
  rw [e]
  by_cases h1 : n * k < m * d
  · rw [if_pos h1, if_pos (by omega)]
  · rw [if_neg h1, if_neg (show ¬ (n * k - m / k * k * d < m * d - m / k * k * d) by omega)]
    by_cases h2 : m * d < n * k
    · rw [if_pos h2, if_pos (by omega)]
    · rw [if_neg h2, if_neg (by omega)]
theorem cmpS_turn (n d m k : Int) : cmpS n d m k = cmpS k m d n := by
  unfold cmpS
  rw [Int.mul_comm k n, Int.mul_comm d m]
theorem rest_bd {n d : Int} (hn : 0 ≤ n) (hd : 1 ≤ d) : 0 ≤ n / d * d ∧ n / d * d ≤ n ∧ 0 ≤ n - n / d * d ∧ n - n / d * d < d := by
  have h1 := Int.emod_nonneg n (show d ≠ 0 by omega)
  have h2 := Int.emod_lt_of_pos n (show 0 < d by omega)
  have e := Int.mul_ediv_add_emod n d
  rw [Int.mul_comm] at e
  have h3 : 0 ≤ n / d := Int.ediv_nonneg hn (by omega)
  have h4 : 0 ≤ n / d * d := Int.mul_nonneg h3 (by omega)
  omega

end Go.Proofs.YtnigmdkhecblnaaDoor
