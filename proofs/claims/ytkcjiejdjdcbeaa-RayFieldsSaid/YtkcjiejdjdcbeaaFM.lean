/- Chapter 4 as plain numbers: roots, indexes, profiles. No condition. -/
import Derived.Test.YtkcjiejdjdcbeaaQA
set_option linter.unusedSimpArgs false
set_option linter.unusedVariables false
namespace Go.Proofs.Ytkcjiejdjdcbeaa

/-- The root of a number, rounded down. -/
def rootN : Nat → Nat
  | 0 => 0
  | n + 1 => if (rootN n + 1) * (rootN n + 1) ≤ n + 1 then rootN n + 1 else rootN n

theorem rootN_le (n : Nat) : rootN n * rootN n ≤ n := by
  induction n with
  | zero => simp [rootN]
  | succ n ih => rw [rootN]; split <;> omega
theorem rootN_lt (n : Nat) : n < (rootN n + 1) * (rootN n + 1) := by
  induction n with
  | zero => simp [rootN]
  | succ n ih =>
    rw [rootN]
    split
    · have h : (rootN n + 1 + 1) * (rootN n + 1 + 1) = (rootN n + 1) * (rootN n + 1) + 2 * (rootN n + 1) + 1 := by
        rw [Nat.add_mul (rootN n + 1) 1, Nat.mul_add]; omega
      omega
    · omega
theorem sqN_lt {a b : Nat} (h : a * a < (b + 1) * (b + 1)) : a ≤ b := by
  rcases Nat.lt_or_ge b a with h1 | h1
  · have := Nat.mul_le_mul (show b + 1 ≤ a from h1) (show b + 1 ≤ a from h1)
    omega
  · exact h1
theorem rootN_eq {n r : Nat} (h1 : r * r ≤ n) (h2 : n < (r + 1) * (r + 1)) : rootN n = r := by
  have h3 := rootN_le n
  have h4 := rootN_lt n
  have h5 : r ≤ rootN n := sqN_lt (by omega)
  have h6 : rootN n ≤ r := sqN_lt (by omega)
  omega

theorem sqd_lt {a b d : Int} (ha : 0 ≤ a) (hb : 0 ≤ b) (hd : 0 < d) (h : a * a * d < b * b * d) : a < b := by
  rcases Int.lt_or_le a b with h1 | h1
  · exact h1
  · have h2 : b * b ≤ a * a := Int.mul_le_mul h1 h1 hb ha
    have h3 := Int.mul_le_mul_of_nonneg_right h2 (show 0 ≤ d by omega)
    omega
theorem sqd_le {a b d : Int} (ha : 0 ≤ a) (h : a ≤ b) (hd : 0 ≤ d) : a * a * d ≤ b * b * d :=
  Int.mul_le_mul_of_nonneg_right (Int.mul_le_mul h h ha (by omega)) hd
theorem sqd_succ (a d : Int) : (a + 1) * (a + 1) * d = a * a * d + (2 * a + 1) * d := by
  rw [← Int.add_mul]; congr 1; rw [Int.add_mul, Int.mul_add]; omega

/-- The index of a frequency for a square that it passes. -/
def idx (sq f : Int) : Int × Int :=
  if (rootN (1000000 * f * f / (f * f - sq)).toNat : Int) * rootN (1000000 * f * f / (f * f - sq)).toNat * (f * f - sq) = 1000000 * f * f
  then (rootN (1000000 * f * f / (f * f - sq)).toNat, rootN (1000000 * f * f / (f * f - sq)).toNat)
  else (rootN (1000000 * f * f / (f * f - sq)).toNat, rootN (1000000 * f * f / (f * f - sq)).toNat + 1)

/-- What an index is. -/
structure IsIdx (sq f lo hi : Int) : Prop where
  lo0 : 0 ≤ lo
  le : lo ≤ hi
  one : hi ≤ lo + 1
  low : lo * lo * (f * f - sq) ≤ 1000000 * f * f
  high : 1000000 * f * f ≤ hi * hi * (f * f - sq)
  low1 : 1000000 * f * f < (lo + 1) * (lo + 1) * (f * f - sq)
  high1 : (hi - 1) * (hi - 1) * (f * f - sq) < 1000000 * f * f
  same : lo * lo * (f * f - sq) = 1000000 * f * f → hi = lo

theorem toNat_root {n : Int} (h : 0 ≤ n) : (rootN n.toNat : Int) * rootN n.toNat ≤ n ∧ n < ((rootN n.toNat : Int) + 1) * (rootN n.toNat + 1) := by
  have h1 := rootN_le n.toNat
  have h2 := rootN_lt n.toNat
  have h3 : ((rootN n.toNat * rootN n.toNat : Nat) : Int) ≤ (n.toNat : Int) := by omega
  have h4 : (n.toNat : Int) < (((rootN n.toNat + 1) * (rootN n.toNat + 1) : Nat) : Int) := by omega
  rw [Int.natCast_mul] at h3 h4
  push_cast at h4
  constructor <;> omega

theorem div_le_iff {a d n : Int} (hd : 0 < d) : n ≤ a / d ↔ n * d ≤ a := Int.le_ediv_iff_mul_le hd
theorem ff_mono {sq f : Int} (h0 : 0 ≤ sq) (hs : sq < f * f) : 0 < f * f - sq ∧ f * f - sq ≤ f * f := by omega

theorem idx_is {sq f : Int} (h1 : 1 ≤ f) (hs : sq < f * f) : IsIdx sq f (idx sq f).1 (idx sq f).2 := by
  have hd : 0 < f * f - sq := by omega
  have hff : 0 ≤ f * f := Int.mul_nonneg (by omega) (by omega)
  have hA : 0 ≤ 1000000 * f * f := by rw [Int.mul_assoc]; omega
  have hA1 : 0 < 1000000 * f * f := by
    have : 0 < f * f := Int.mul_pos (by omega) (by omega)
    rw [Int.mul_assoc]; omega
  have hq : 0 ≤ 1000000 * f * f / (f * f - sq) := Int.ediv_nonneg hA (by omega)
  obtain ⟨r1, r2⟩ := toNat_root hq
  unfold idx
  generalize rootN (1000000 * f * f / (f * f - sq)).toNat = r at r1 r2
  have hlow : (r : Int) * r * (f * f - sq) ≤ 1000000 * f * f := (div_le_iff hd).1 r1
  have hlow1 : 1000000 * f * f < ((r : Int) + 1) * (r + 1) * (f * f - sq) := by
    rcases Int.lt_or_le (1000000 * f * f) (((r : Int) + 1) * (r + 1) * (f * f - sq)) with h | h
    · exact h
    · have := (div_le_iff hd).2 h; omega
  split
  · rename_i he
    have hh : ((r : Int) - 1) * (r - 1) * (f * f - sq) < 1000000 * f * f := by
      have h0 : 1 ≤ (r : Int) := by
        rcases Nat.eq_zero_or_pos r with h | h
        · subst h; simp at he; omega
        · omega
      have h2 := sqd_succ ((r : Int) - 1) (f * f - sq)
      rw [show (r : Int) - 1 + 1 = r by omega] at h2
      have h3 : 0 < (2 * ((r : Int) - 1) + 1) * (f * f - sq) := Int.mul_pos (by omega) hd
      omega
    exact ⟨by omega, by omega, by omega, hlow, by dsimp only; omega, hlow1, hh, fun _ => rfl⟩
  · rename_i he
    refine ⟨by omega, by dsimp only; omega, by dsimp only; omega, hlow, by dsimp only; omega, hlow1, ?_, fun h => absurd h he⟩
    dsimp only
    rw [show (r : Int) + 1 - 1 = r by omega]
    omega

theorem IsIdx.unique {sq f lo hi a b : Int} (hd : 0 < f * f - sq) (h : IsIdx sq f lo hi) (k : IsIdx sq f a b) : lo = a ∧ hi = b := by
  have e1 : lo < a + 1 := sqd_lt h.lo0 (by have := k.lo0; omega) hd (by have := h.low; have := k.low1; omega)
  have e2 : a < lo + 1 := sqd_lt k.lo0 (by have := h.lo0; omega) hd (by have := k.low; have := h.low1; omega)
  have e3 : lo = a := by omega
  subst e3
  refine ⟨rfl, ?_⟩
  have h1 := h.le; have h2 := h.one; have k1 := k.le; have k2 := k.one
  have hh := h.high; have kh := k.high
  have h3 := h.same; have k3 := k.same
  have h4 := h.low
  rcases Int.lt_or_le (lo * lo * (f * f - sq)) (1000000 * f * f) with hl | hl
  · have e4 : hi ≠ lo := by rintro rfl; omega
    have e5 : b ≠ lo := by rintro rfl; omega
    omega
  · have := h3 (by omega); have := k3 (by omega); omega
theorem idx_of {sq f lo hi : Int} (h1 : 1 ≤ f) (hs : sq < f * f) (h : IsIdx sq f lo hi) : idx sq f = (lo, hi) := by
  obtain ⟨e1, e2⟩ := (idx_is h1 hs).unique (by omega) h
  exact Prod.ext e1 e2

theorem IsIdx.bd {sq f lo hi : Int} (h1 : 1 ≤ f) (h0 : 0 ≤ sq) (hs : sq < f * f) (h : IsIdx sq f lo hi) : 1000 ≤ lo ∧ hi ≤ 1000 * f := by
  have hd : 0 < f * f - sq := by omega
  have hA : 1000000 * f * f = 1000000 * (f * f) := by rw [Int.mul_assoc]
  constructor
  · have : 1000 < lo + 1 := sqd_lt (by omega) (by have := h.lo0; omega) hd (by
      have h2 := h.low1
      have h3 : (1000 : Int) * 1000 * (f * f - sq) = 1000000 * (f * f - sq) := by omega
      omega)
    omega
  · have h2 := h.high1
    rcases Int.lt_or_le hi 1 with h3 | h3
    · omega
    · have h4 : (1000 * f) * (1000 * f) * 1 ≤ (1000 * f) * (1000 * f) * (f * f - sq) := Int.mul_le_mul_of_nonneg_left (by omega) (Int.mul_nonneg (by omega) (by omega))
      have h5 : (1000 * f) * (1000 * f) = 1000000 * f * f := by
        rw [Int.mul_assoc 1000 f, Int.mul_left_comm f 1000 f, Int.mul_assoc 1000000]
        omega
      have : hi - 1 < 1000 * f := sqd_lt (by omega) (by omega) hd (by omega)
      omega

theorem IsIdx.mono {sq sq' f lo hi lo' hi' : Int} (hs : sq ≤ sq') (hs' : sq' < f * f) (h : IsIdx sq f lo hi) (k : IsIdx sq' f lo' hi') : lo ≤ lo' ∧ hi ≤ hi' := by
  have hd : 0 < f * f - sq' := by omega
  constructor
  · have h1 : lo * lo * (f * f - sq') ≤ lo * lo * (f * f - sq) := Int.mul_le_mul_of_nonneg_left (by omega) (Int.mul_nonneg h.lo0 h.lo0)
    have := sqd_lt h.lo0 (show 0 ≤ lo' + 1 by have := k.lo0; omega) hd (by have := h.low; have := k.low1; omega)
    omega
  · have hk0 : 0 ≤ hi' := by have := k.lo0; have := k.le; omega
    rcases Int.lt_or_le hi 1 with h3 | h3
    · omega
    · have h1 : hi' * hi' * (f * f - sq') ≤ hi' * hi' * (f * f - sq) := Int.mul_le_mul_of_nonneg_left (by omega) (Int.mul_nonneg hk0 hk0)
      have := sqd_lt (show 0 ≤ hi - 1 by omega) hk0 (show 0 < f * f - sq by omega) (by have := h.high1; have := k.high; omega)
      omega

theorem idx_bd {sq f : Int} (h1 : 1 ≤ f) (h0 : 0 ≤ sq) (hs : sq < f * f) : 1000 ≤ (idx sq f).1 ∧ (idx sq f).1 ≤ (idx sq f).2 ∧ (idx sq f).2 ≤ (idx sq f).1 + 1 ∧ (idx sq f).2 ≤ 1000 * f := by
  have h := idx_is h1 hs
  have := h.bd h1 h0 hs
  exact ⟨this.1, h.le, h.one, this.2⟩
theorem idx_mono {sq sq' f : Int} (h1 : 1 ≤ f) (hs : sq ≤ sq') (hs' : sq' < f * f) : (idx sq f).1 ≤ (idx sq' f).1 ∧ (idx sq f).2 ≤ (idx sq' f).2 :=
  (idx_is h1 (by omega)).mono hs hs' (idx_is h1 hs')

/-- A quotient rounded up. -/
def up (n by' : Int) : Int := (n + by' - 1) / by'
theorem up_le {n d m : Int} (hd : 0 < d) : up n d ≤ m ↔ n ≤ m * d := by
  unfold up
  constructor
  · intro h
    have := (Int.ediv_lt_iff_lt_mul hd).1 (show (n + d - 1) / d < m + 1 by omega)
    rw [Int.add_mul] at this
    omega
  · intro h
    have := (Int.ediv_lt_iff_lt_mul hd).2 (show n + d - 1 < (m + 1) * d by rw [Int.add_mul]; omega)
    omega
theorem lt_up {n d m : Int} (hd : 0 < d) : m < up n d ↔ m * d < n := by
  have := up_le (n := n) (m := m) hd
  omega
theorem up_nonneg {n d : Int} (hd : 0 < d) (h : 0 ≤ n) : 0 ≤ up n d := Int.ediv_nonneg (by omega) (by omega)
theorem up_self {n d : Int} (hd : 0 < d) (h : 0 ≤ n) : up n d ≤ n := by
  have h1 : n * 1 ≤ n * d := Int.mul_le_mul_of_nonneg_left (by omega) h
  exact (up_le hd).2 (by omega)

/-- The least number whose square is at least the quotient rounded up gives the index. -/
theorem idx_search {sq f hi : Int} (h1 : 1 ≤ f) (hs : sq < f * f) (hhi : 0 ≤ hi) (hge : up (1000000 * f * f) (f * f - sq) ≤ hi * hi) (hlt : 0 < hi → (hi - 1) * (hi - 1) < up (1000000 * f * f) (f * f - sq)) :
    idx sq f = if hi * hi * (f * f - sq) = 1000000 * f * f then (hi, hi) else (hi - 1, hi) := by
  have hd : 0 < f * f - sq := by omega
  have g1 : 1000000 * f * f ≤ hi * hi * (f * f - sq) := (up_le hd).1 hge
  have hA1 : 0 < 1000000 * f * f := by
    have : 0 < f * f := Int.mul_pos (by omega) (by omega)
    rw [Int.mul_assoc]; omega
  have hp : 0 < hi := by
    rcases Int.lt_or_le 0 hi with h | h
    · exact h
    · have : hi = 0 := by omega
      subst this; simp at g1; omega
  have g2 : (hi - 1) * (hi - 1) * (f * f - sq) < 1000000 * f * f := (lt_up hd).1 (hlt hp)
  have g3 := sqd_succ hi (f * f - sq)
  have g4 : 0 < (2 * hi + 1) * (f * f - sq) := Int.mul_pos (by omega) hd
  split
  · rename_i he
    exact idx_of h1 hs ⟨hhi, by omega, by omega, by omega, by omega, by omega, g2, fun _ => rfl⟩
  · rename_i he
    refine idx_of h1 hs ⟨by omega, by omega, by omega, by omega, g1, ?_, g2, fun h => by omega⟩
    rw [show hi - 1 + 1 = hi by omega]
    omega
theorem idx_big {f hi sq : Int} (h1 : 1 ≤ f) (hf : f ≤ 3000) (h0 : 0 ≤ sq) (hs : sq < f * f) (hhi : 0 ≤ hi) (hle : hi ≤ 1000 * f) (hlt : 0 < hi → (hi - 1) * (hi - 1) < up (1000000 * f * f) (f * f - sq)) :
    hi * hi * (f * f - sq) ≤ 70000000000000 ∧ 0 ≤ hi * hi * (f * f - sq) := by
  have hd : 0 < f * f - sq := by omega
  have hff : f * f ≤ 3000 * 3000 := Int.mul_le_mul hf hf (by omega) (by omega)
  have hA : 1000000 * f * f = 1000000 * (f * f) := by rw [Int.mul_assoc]
  refine ⟨?_, Int.mul_nonneg (Int.mul_nonneg hhi hhi) (by omega)⟩
  rcases Int.lt_or_le 0 hi with h | h
  · have g2 : (hi - 1) * (hi - 1) * (f * f - sq) < 1000000 * f * f := (lt_up hd).1 (hlt h)
    have g3 := sqd_succ (hi - 1) (f * f - sq)
    rw [show hi - 1 + 1 = hi by omega] at g3
    have g4 : (2 * (hi - 1) + 1) * (f * f - sq) ≤ 6000000 * 9000000 := Int.mul_le_mul (by omega) (by omega) (by omega) (by omega)
    omega
  · have : hi = 0 := by omega
    subst this; simp
end Go.Proofs.Ytkcjiejdjdcbeaa
