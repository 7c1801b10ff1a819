/- The rises of a chirp with Num at most Den come at even steps: plain numbers. No condition but those that each says. -/
import Derived.Test.YtmedjedmeggbpaaDoorMF
namespace Go.Proofs.YtmedjedmeggbpaaDoor

theorem freq_line {s n d t : Int} (hd : 1 ≤ d) : 0 ≤ t * n - (freq s n d t - s) * d ∧ t * n - (freq s n d t - s) * d ≤ d - 1 := by
  have h := Int.mul_ediv_add_emod (t * n) d
  have h1 := Int.emod_nonneg (t * n) (show d ≠ 0 by omega)
  have h2 := Int.emod_lt_of_pos (t * n) (show 0 < d by omega)
  have e : (freq s n d t - s) * d = d * (t * n / d) := by unfold freq; rw [(fun a b => by omega : ∀ a b : Int, a + b - a = b), Int.mul_comm]
  rw [e]
  omega

/-- What is known of the rises below k: as many as the line has whole steps, each at the first tick that reaches its step. -/
theorem risesL_at (s n d : Int) (hn : 0 ≤ n) (hd : 1 ≤ d) (hnd : n ≤ d) : ∀ k : Nat, (((risesL s n d (k + 1)).length : Int) = (k : Int) * n / d) ∧
    ∀ i (hi : i < (risesL s n d (k + 1)).length), ((i : Int) + 1) * d ≤ (risesL s n d (k + 1))[i] * n ∧ ((risesL s n d (k + 1))[i] - 1) * n < ((i : Int) + 1) * d := by
  intro k
  induction k with
  | zero => simp [risesL]
  | succ k ih =>
    obtain ⟨hl, hp⟩ := ih
    have e1 : ((k + 1 : Nat) : Int) - 1 = (k : Int) := by omega
    have hf : freq s n d (((k + 1 : Nat) : Int) - 1) < freq s n d ((k + 1 : Nat) : Int) ↔ (k : Int) * n / d < ((k + 1 : Nat) : Int) * n / d := by
      rw [e1]; unfold freq; omega
    have hA := Int.mul_ediv_add_emod ((k : Int) * n) d
    have hA1 := Int.emod_nonneg ((k : Int) * n) (show d ≠ 0 by omega)
    have hA2 := Int.emod_lt_of_pos ((k : Int) * n) (show 0 < d by omega)
    have hB := Int.mul_ediv_add_emod (((k + 1 : Nat) : Int) * n) d
    have hB1 := Int.emod_nonneg (((k + 1 : Nat) : Int) * n) (show d ≠ 0 by omega)
    have hB2 := Int.emod_lt_of_pos (((k + 1 : Nat) : Int) * n) (show 0 < d by omega)
    have hkn : ((k + 1 : Nat) : Int) * n = (k : Int) * n + n := by rw [Int.natCast_succ, Int.add_mul, Int.one_mul]
    rw [hkn] at hB hB1 hB2 hf ⊢
    generalize hPd : (k : Int) * n = P at *
    generalize hq1 : P / d = q1 at *
    generalize hq2 : (P + n) / d = q2 at *
    generalize P % d = r1 at *
    generalize (P + n) % d = r2 at *
    -- d * q1 + r1 = P, d * q2 + r2 = P + n
    have h0 : d * (q2 - q1) = n + r1 - r2 := by rw [Int.mul_sub]; omega
    have hstep : q2 = q1 ∨ q2 = q1 + 1 := by
      rcases Int.lt_trichotomy (q2 - q1) 0 with h | h | h
      · have := Int.mul_le_mul_of_nonneg_left (show q2 - q1 ≤ -1 by omega) (show 0 ≤ d by omega); omega
      · left; omega
      · rcases Int.lt_or_le (q2 - q1) 2 with h2 | h2
        · right; omega
        · have := Int.mul_le_mul_of_nonneg_left h2 (show 0 ≤ d by omega); omega
    rw [risesL]
    rcases hstep with h | h
    · rw [if_neg (fun hc => by have := hf.1 hc.2; omega)]
      exact ⟨by rw [hl, h], hp⟩
    · rw [if_pos ⟨by omega, hf.2 (by omega)⟩]
      refine ⟨by rw [List.length_append, List.length_singleton]; omega, fun i hi => ?_⟩
      by_cases hlt : i < (risesL s n d (k + 1)).length
      · rw [List.getElem_append_left hlt]; exact hp i hlt
      · have hil : i = (risesL s n d (k + 1)).length := by rw [List.length_append, List.length_singleton] at hi; omega
        subst hil
        rw [List.getElem_append_right (by omega)]
        simp only [Nat.sub_self, List.getElem_singleton]
        have e3 : (((k + 1 : Nat) : Int) - 1) * n = P := by rw [e1]; exact hPd
        have e4 : (((risesL s n d (k + 1)).length : Int) + 1) * d = d * q2 := by rw [hl, h, Int.mul_comm]
        rw [e3, e4, hkn]
        have e5 : d * q2 = d * q1 + d := by rw [h, Int.mul_add, Int.mul_one]
        omega

/-- The distances of neighbouring rises differ by at most one. -/
theorem risesL_even (s n d : Int) (hn : 0 ≤ n) (hd : 1 ≤ d) (hnd : n ≤ d) (k : Nat) {i j : Nat} (hi : i + 1 < (risesL s n d (k + 1)).length) (hj : j + 1 < (risesL s n d (k + 1)).length) :
    -1 ≤ (risesL s n d (k + 1))[i + 1] - (risesL s n d (k + 1))[i] - ((risesL s n d (k + 1))[j + 1] - (risesL s n d (k + 1))[j]) ∧
      (risesL s n d (k + 1))[i + 1] - (risesL s n d (k + 1))[i] - ((risesL s n d (k + 1))[j + 1] - (risesL s n d (k + 1))[j]) ≤ 1 := by
  obtain ⟨hl, hp⟩ := risesL_at s n d hn hd hnd k
  obtain ⟨a1, a2⟩ := hp (i + 1) hi
  obtain ⟨b1, b2⟩ := hp i (by omega)
  obtain ⟨c1, c2⟩ := hp (j + 1) hj
  obtain ⟨d1, d2⟩ := hp j (by omega)
  generalize (risesL s n d (k + 1))[i + 1] = x at *
  generalize (risesL s n d (k + 1))[i] = y at *
  generalize (risesL s n d (k + 1))[j + 1] = u at *
  generalize (risesL s n d (k + 1))[j] = v at *
  have hz : 0 < n := by
    rcases Int.lt_or_le 0 n with h | h
    · exact h
    · obtain rfl : n = 0 := by omega
      simp at hl
      omega
  have ei : (((i + 1 : Nat) : Int) + 1) * d = ((i : Int) + 1) * d + d := by rw [Int.natCast_succ, Int.add_mul ((i : Int) + 1) 1 d, Int.one_mul]
  have ej : (((j + 1 : Nat) : Int) + 1) * d = ((j : Int) + 1) * d + d := by rw [Int.natCast_succ, Int.add_mul ((j : Int) + 1) 1 d, Int.one_mul]
  rw [ei] at a1 a2
  rw [ej] at c1 c2
  rw [Int.sub_mul, Int.one_mul] at a2 b2 c2 d2
  generalize ((i : Int) + 1) * d = p at *
  generalize ((j : Int) + 1) * d = q at *
  have e : (x - y - (u - v)) * n = x * n - y * n - (u * n - v * n) := by rw [Int.sub_mul, Int.sub_mul, Int.sub_mul]
  have h1 : (x - y - (u - v)) * n < 2 * n := by omega
  have h2 : (-2) * n < (x - y - (u - v)) * n := by omega
  have h3 := Int.lt_of_mul_lt_mul_right h1 (Int.le_of_lt hz)
  have h4 := Int.lt_of_mul_lt_mul_right h2 (Int.le_of_lt hz)
  omega

theorem turnG_mul (p q : Nat) (hp : p < 4) (hq : q < 4) : ((turnG p).1 * (turnG q).1 - (turnG p).2 * (turnG q).2, (turnG p).1 * (turnG q).2 + (turnG p).2 * (turnG q).1) = turnG ((p + q) % 4) := by
  have e : p = 0 ∨ p = 1 ∨ p = 2 ∨ p = 3 := by omega
  have f : q = 0 ∨ q = 1 ∨ q = 2 ∨ q = 3 := by omega
  rcases e with rfl | rfl | rfl | rfl <;> rcases f with rfl | rfl | rfl | rfl <;> decide
end Go.Proofs.YtmedjedmeggbpaaDoor
