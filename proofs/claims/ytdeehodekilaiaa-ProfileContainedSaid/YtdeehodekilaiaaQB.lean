/- A group of texts (tools/groups.txt): FM FP FL FN FD FT FC FR. No condition but those that each says. -/
import Derived.Test.YtdeehodekilaiaaQA
set_option linter.unusedSimpArgs false
set_option linter.unusedVariables false
/- Chapter 4 as plain numbers: roots, indexes, profiles. No condition. -/
namespace Go.Proofs.Ytdeehodekilaiaa

/-- The root of a number, rounded down. -/
def rootN : Nat → Nat
  | 0 => 0
  | n + 1 => if (rootN n + 1) * (rootN n + 1) ≤ n + 1 then rootN n + 1 else rootN n

theorem rootN_le (n : Nat) : rootN n * rootN n ≤ n := by
  induction n with
  | zero => simp [rootN]
  | succ n ih => rw [rootN]; split <;> omega
theorem rootN_lt (n : Nat) : n < (rootN n + 1) * (rootN n + 1) := by
  induction n with
  | zero => simp [rootN]
  | succ n ih =>
    rw [rootN]
    split
    · have h : (rootN n + 1 + 1) * (rootN n + 1 + 1) = (rootN n + 1) * (rootN n + 1) + 2 * (rootN n + 1) + 1 := by
        rw [Nat.add_mul (rootN n + 1) 1, Nat.mul_add]; omega
      omega
    · omega
theorem sqN_lt {a b : Nat} (h : a * a < (b + 1) * (b + 1)) : a ≤ b := by
  rcases Nat.lt_or_ge b a with h1 | h1
  · have := Nat.mul_le_mul (show b + 1 ≤ a from h1) (show b + 1 ≤ a from h1)
    omega
  · exact h1
theorem rootN_eq {n r : Nat} (h1 : r * r ≤ n) (h2 : n < (r + 1) * (r + 1)) : rootN n = r := by
  have h3 := rootN_le n
  have h4 := rootN_lt n
  have h5 : r ≤ rootN n := sqN_lt (by omega)
  have h6 : rootN n ≤ r := sqN_lt (by omega)
  omega

theorem sqd_lt {a b d : Int} (ha : 0 ≤ a) (hb : 0 ≤ b) (hd : 0 < d) (h : a * a * d < b * b * d) : a < b := by
  rcases Int.lt_or_le a b with h1 | h1
  · exact h1
  · have h2 : b * b ≤ a * a := Int.mul_le_mul h1 h1 hb ha
    have h3 := Int.mul_le_mul_of_nonneg_right h2 (show 0 ≤ d by omega)
    omega
theorem sqd_le {a b d : Int} (ha : 0 ≤ a) (h : a ≤ b) (hd : 0 ≤ d) : a * a * d ≤ b * b * d :=
  Int.mul_le_mul_of_nonneg_right (Int.mul_le_mul h h ha (by omega)) hd
theorem sqd_succ (a d : Int) : (a + 1) * (a + 1) * d = a * a * d + (2 * a + 1) * d := by
  rw [← Int.add_mul]; congr 1; rw [Int.add_mul, Int.mul_add]; omega

/-- The index of a frequency for a square that it passes. -/
def idx (sq f : Int) : Int × Int :=
  if (rootN (1000000 * f * f / (f * f - sq)).toNat : Int) * rootN (1000000 * f * f / (f * f - sq)).toNat * (f * f - sq) = 1000000 * f * f
  then (rootN (1000000 * f * f / (f * f - sq)).toNat, rootN (1000000 * f * f / (f * f - sq)).toNat)
  else (rootN (1000000 * f * f / (f * f - sq)).toNat, rootN (1000000 * f * f / (f * f - sq)).toNat + 1)

/-- What an index is. -/
structure IsIdx (sq f lo hi : Int) : Prop where
  lo0 : 0 ≤ lo
  le : lo ≤ hi
  one : hi ≤ lo + 1
  low : lo * lo * (f * f - sq) ≤ 1000000 * f * f
  high : 1000000 * f * f ≤ hi * hi * (f * f - sq)
  low1 : 1000000 * f * f < (lo + 1) * (lo + 1) * (f * f - sq)
  high1 : (hi - 1) * (hi - 1) * (f * f - sq) < 1000000 * f * f
  same : lo * lo * (f * f - sq) = 1000000 * f * f → hi = lo

theorem toNat_root {n : Int} (h : 0 ≤ n) : (rootN n.toNat : Int) * rootN n.toNat ≤ n ∧ n < ((rootN n.toNat : Int) + 1) * (rootN n.toNat + 1) := by
  have h1 := rootN_le n.toNat
  have h2 := rootN_lt n.toNat
  have h3 : ((rootN n.toNat * rootN n.toNat : Nat) : Int) ≤ (n.toNat : Int) := by omega
  have h4 : (n.toNat : Int) < (((rootN n.toNat + 1) * (rootN n.toNat + 1) : Nat) : Int) := by omega
  rw [Int.natCast_mul] at h3 h4
  push_cast at h4
  constructor <;> omega

theorem div_le_iff {a d n : Int} (hd : 0 < d) : n ≤ a / d ↔ n * d ≤ a := Int.le_ediv_iff_mul_le hd
theorem ff_mono {sq f : Int} (h0 : 0 ≤ sq) (hs : sq < f * f) : 0 < f * f - sq ∧ f * f - sq ≤ f * f := by omega

theorem idx_is {sq f : Int} (h1 : 1 ≤ f) (hs : sq < f * f) : IsIdx sq f (idx sq f).1 (idx sq f).2 := by
  have hd : 0 < f * f - sq := by omega
  have hff : 0 ≤ f * f := Int.mul_nonneg (by omega) (by omega)
  have hA : 0 ≤ 1000000 * f * f := by rw [Int.mul_assoc]; omega
  have hA1 : 0 < 1000000 * f * f := by
    have : 0 < f * f := Int.mul_pos (by omega) (by omega)
    rw [Int.mul_assoc]; omega
  have hq : 0 ≤ 1000000 * f * f / (f * f - sq) := Int.ediv_nonneg hA (by omega)
  obtain ⟨r1, r2⟩ := toNat_root hq
  unfold idx
  generalize rootN (1000000 * f * f / (f * f - sq)).toNat = r at r1 r2
  have hlow : (r : Int) * r * (f * f - sq) ≤ 1000000 * f * f := (div_le_iff hd).1 r1
  have hlow1 : 1000000 * f * f < ((r : Int) + 1) * (r + 1) * (f * f - sq) := by
    rcases Int.lt_or_le (1000000 * f * f) (((r : Int) + 1) * (r + 1) * (f * f - sq)) with h | h
    · exact h
    · have := (div_le_iff hd).2 h; omega
  split
  · rename_i he
    have hh : ((r : Int) - 1) * (r - 1) * (f * f - sq) < 1000000 * f * f := by
      have h0 : 1 ≤ (r : Int) := by
        rcases Nat.eq_zero_or_pos r with h | h
        · subst h; simp at he; omega
        · omega
      have h2 := sqd_succ ((r : Int) - 1) (f * f - sq)
      rw [show (r : Int) - 1 + 1 = r by omega] at h2
      have h3 : 0 < (2 * ((r : Int) - 1) + 1) * (f * f - sq) := Int.mul_pos (by omega) hd
      omega
    exact ⟨by omega, by omega, by omega, hlow, by dsimp only; omega, hlow1, hh, fun _ => rfl⟩
  · rename_i he
    refine ⟨by omega, by dsimp only; omega, by dsimp only; omega, hlow, by dsimp only; omega, hlow1, ?_, fun h => absurd h he⟩
    dsimp only
    rw [show (r : Int) + 1 - 1 = r by omega]
    omega

theorem IsIdx.unique {sq f lo hi a b : Int} (hd : 0 < f * f - sq) (h : IsIdx sq f lo hi) (k : IsIdx sq f a b) : lo = a ∧ hi = b := by
  have e1 : lo < a + 1 := sqd_lt h.lo0 (by have := k.lo0; omega) hd (by have := h.low; have := k.low1; omega)
  have e2 : a < lo + 1 := sqd_lt k.lo0 (by have := h.lo0; omega) hd (by have := k.low; have := h.low1; omega)
  have e3 : lo = a := by omega
  subst e3
  refine ⟨rfl, ?_⟩
  have h1 := h.le; have h2 := h.one; have k1 := k.le; have k2 := k.one
  have hh := h.high; have kh := k.high
  have h3 := h.same; have k3 := k.same
  have h4 := h.low
  rcases Int.lt_or_le (lo * lo * (f * f - sq)) (1000000 * f * f) with hl | hl
  · have e4 : hi ≠ lo := by rintro rfl; omega
    have e5 : b ≠ lo := by rintro rfl; omega
    omega
  · have := h3 (by omega); have := k3 (by omega); omega
theorem idx_of {sq f lo hi : Int} (h1 : 1 ≤ f) (hs : sq < f * f) (h : IsIdx sq f lo hi) : idx sq f = (lo, hi) := by
  obtain ⟨e1, e2⟩ := (idx_is h1 hs).unique (by omega) h
  exact Prod.ext e1 e2

theorem IsIdx.bd {sq f lo hi : Int} (h1 : 1 ≤ f) (h0 : 0 ≤ sq) (hs : sq < f * f) (h : IsIdx sq f lo hi) : 1000 ≤ lo ∧ hi ≤ 1000 * f := by
  have hd : 0 < f * f - sq := by omega
  have hA : 1000000 * f * f = 1000000 * (f * f) := by rw [Int.mul_assoc]
  constructor
  · have : 1000 < lo + 1 := sqd_lt (by omega) (by have := h.lo0; omega) hd (by
      have h2 := h.low1
      have h3 : (1000 : Int) * 1000 * (f * f - sq) = 1000000 * (f * f - sq) := by omega
      omega)
    omega
  · have h2 := h.high1
    rcases Int.lt_or_le hi 1 with h3 | h3
    · omega
    · have h4 : (1000 * f) * (1000 * f) * 1 ≤ (1000 * f) * (1000 * f) * (f * f - sq) := Int.mul_le_mul_of_nonneg_left (by omega) (Int.mul_nonneg (by omega) (by omega))
      have h5 : (1000 * f) * (1000 * f) = 1000000 * f * f := by
        rw [Int.mul_assoc 1000 f, Int.mul_left_comm f 1000 f, Int.mul_assoc 1000000]
        omega
      have : hi - 1 < 1000 * f := sqd_lt (by omega) (by omega) hd (by omega)
      omega

theorem IsIdx.mono {sq sq' f lo hi lo' hi' : Int} (hs : sq ≤ sq') (hs' : sq' < f * f) (h : IsIdx sq f lo hi) (k : IsIdx sq' f lo' hi') : lo ≤ lo' ∧ hi ≤ hi' := by
  have hd : 0 < f * f - sq' := by omega
  constructor
  · have h1 : lo * lo * (f * f - sq') ≤ lo * lo * (f * f - sq) := Int.mul_le_mul_of_nonneg_left (by omega) (Int.mul_nonneg h.lo0 h.lo0)
    have := sqd_lt h.lo0 (show 0 ≤ lo' + 1 by have := k.lo0; omega) hd (by have := h.low; have := k.low1; omega)
    omega
  · have hk0 : 0 ≤ hi' := by have := k.lo0; have := k.le; omega
    rcases Int.lt_or_le hi 1 with h3 | h3
    · omega
    · have h1 : hi' * hi' * (f * f - sq') ≤ hi' * hi' * (f * f - sq) := Int.mul_le_mul_of_nonneg_left (by omega) (Int.mul_nonneg hk0 hk0)
      have := sqd_lt (show 0 ≤ hi - 1 by omega) hk0 (show 0 < f * f - sq by omega) (by have := h.high1; have := k.high; omega)
      omega

theorem idx_bd {sq f : Int} (h1 : 1 ≤ f) (h0 : 0 ≤ sq) (hs : sq < f * f) : 1000 ≤ (idx sq f).1 ∧ (idx sq f).1 ≤ (idx sq f).2 ∧ (idx sq f).2 ≤ (idx sq f).1 + 1 ∧ (idx sq f).2 ≤ 1000 * f := by
  have h := idx_is h1 hs
  have := h.bd h1 h0 hs
  exact ⟨this.1, h.le, h.one, this.2⟩
theorem idx_mono {sq sq' f : Int} (h1 : 1 ≤ f) (hs : sq ≤ sq') (hs' : sq' < f * f) : (idx sq f).1 ≤ (idx sq' f).1 ∧ (idx sq f).2 ≤ (idx sq' f).2 :=
  (idx_is h1 (by omega)).mono hs hs' (idx_is h1 hs')

/-- A quotient rounded up. -/
def up (n by' : Int) : Int := (n + by' - 1) / by'
theorem up_le {n d m : Int} (hd : 0 < d) : up n d ≤ m ↔ n ≤ m * d := by
  unfold up
  constructor
  · intro h
    have := (Int.ediv_lt_iff_lt_mul hd).1 (show (n + d - 1) / d < m + 1 by omega)
    rw [Int.add_mul] at this
    omega
  · intro h
    have := (Int.ediv_lt_iff_lt_mul hd).2 (show n + d - 1 < (m + 1) * d by rw [Int.add_mul]; omega)
    omega
theorem lt_up {n d m : Int} (hd : 0 < d) : m < up n d ↔ m * d < n := by
  have := up_le (n := n) (m := m) hd
  omega
theorem up_nonneg {n d : Int} (hd : 0 < d) (h : 0 ≤ n) : 0 ≤ up n d := Int.ediv_nonneg (by omega) (by omega)
theorem up_self {n d : Int} (hd : 0 < d) (h : 0 ≤ n) : up n d ≤ n := by
  have h1 : n * 1 ≤ n * d := Int.mul_le_mul_of_nonneg_left (by omega) h
  exact (up_le hd).2 (by omega)

/-- The least number whose square is at least the quotient rounded up gives the index. -/
theorem idx_search {sq f hi : Int} (h1 : 1 ≤ f) (hs : sq < f * f) (hhi : 0 ≤ hi) (hge : up (1000000 * f * f) (f * f - sq) ≤ hi * hi) (hlt : 0 < hi → (hi - 1) * (hi - 1) < up (1000000 * f * f) (f * f - sq)) :
    idx sq f = if hi * hi * (f * f - sq) = 1000000 * f * f then (hi, hi) else (hi - 1, hi) := by
  have hd : 0 < f * f - sq := by omega
  have g1 : 1000000 * f * f ≤ hi * hi * (f * f - sq) := (up_le hd).1 hge
  have hA1 : 0 < 1000000 * f * f := by
    have : 0 < f * f := Int.mul_pos (by omega) (by omega)
    rw [Int.mul_assoc]; omega
  have hp : 0 < hi := by
    rcases Int.lt_or_le 0 hi with h | h
    · exact h
    · have : hi = 0 := by omega
      subst this; simp at g1; omega
  have g2 : (hi - 1) * (hi - 1) * (f * f - sq) < 1000000 * f * f := (lt_up hd).1 (hlt hp)
  have g3 := sqd_succ hi (f * f - sq)
  have g4 : 0 < (2 * hi + 1) * (f * f - sq) := Int.mul_pos (by omega) hd
  split
  · rename_i he
    exact idx_of h1 hs ⟨hhi, by omega, by omega, by omega, by omega, by omega, g2, fun _ => rfl⟩
  · rename_i he
    refine idx_of h1 hs ⟨by omega, by omega, by omega, by omega, g1, ?_, g2, fun h => by omega⟩
    rw [show hi - 1 + 1 = hi by omega]
    omega
theorem idx_big {f hi sq : Int} (h1 : 1 ≤ f) (hf : f ≤ 3000) (h0 : 0 ≤ sq) (hs : sq < f * f) (hhi : 0 ≤ hi) (hle : hi ≤ 1000 * f) (hlt : 0 < hi → (hi - 1) * (hi - 1) < up (1000000 * f * f) (f * f - sq)) :
    hi * hi * (f * f - sq) ≤ 70000000000000 ∧ 0 ≤ hi * hi * (f * f - sq) := by
  have hd : 0 < f * f - sq := by omega
  have hff : f * f ≤ 3000 * 3000 := Int.mul_le_mul hf hf (by omega) (by omega)
  have hA : 1000000 * f * f = 1000000 * (f * f) := by rw [Int.mul_assoc]
  refine ⟨?_, Int.mul_nonneg (Int.mul_nonneg hhi hhi) (by omega)⟩
  rcases Int.lt_or_le 0 hi with h | h
  · have g2 : (hi - 1) * (hi - 1) * (f * f - sq) < 1000000 * f * f := (lt_up hd).1 (hlt h)
    have g3 := sqd_succ (hi - 1) (f * f - sq)
    rw [show hi - 1 + 1 = hi by omega] at g3
    have g4 : (2 * (hi - 1) + 1) * (f * f - sq) ≤ 6000000 * 9000000 := Int.mul_le_mul (by omega) (by omega) (by omega) (by omega)
    omega
  · have : hi = 0 := by omega
    subst this; simp
end Go.Proofs.Ytdeehodekilaiaa

/- Profiles and traces as plain data: their errors, heights, delays. No condition. -/
namespace Go.Proofs.Ytdeehodekilaiaa

def squareE (s : Int) : Int := errIf (outB s 0 9000000) 2
def freqE (f : Int) : Int := errIf (outB f 1 3000) 2
def slabE (g : G) : Int := firstE [squareE g.1, errIf (outB g.2 0 500) 2]
/-- The error of what precedes the slabs. -/
def proHead (base n : Int) : Int := firstE [errIf (outB base 0 500) 2, errIf (n == 0) 10, errIf (decide (12 < n)) 8]
/-- The index and the error of a profile. -/
def proE (base : Int) (l : List G) : Int × Int := if proHead base l.length = 0 then firstBadFrom (fun _ g => slabE g) 0 l else (0, proHead base l.length)

theorem errIf_zero {b : Bool} {e : Int} (he : e ≠ 0) : errIf b e = 0 ↔ b = false := by cases b <;> simp [errIf, he]
theorem firstE_cons_zero {e : Int} {l : List Int} : firstE (e :: l) = 0 ↔ e = 0 ∧ firstE l = 0 := by
  rw [firstE]
  split
  · rename_i h; simp [h]
  · rename_i h; simp [h]
theorem firstE_nil : firstE [] = 0 := rfl
theorem slabE_zero {g : G} : slabE g = 0 ↔ 0 ≤ g.1 ∧ g.1 ≤ 9000000 ∧ 0 ≤ g.2 ∧ g.2 ≤ 500 := by
  simp [slabE, squareE, firstE_cons_zero, firstE_nil, errIf_zero, outB_false, and_assoc]
theorem freqE_zero {f : Int} : freqE f = 0 ↔ 1 ≤ f ∧ f ≤ 3000 := by simp [freqE, errIf_zero, outB_false]
theorem proHead_zero {base : Int} {n : Nat} : proHead base n = 0 ↔ 0 ≤ base ∧ base ≤ 500 ∧ 1 ≤ n ∧ n ≤ 12 := by
  simp [proHead, firstE_cons_zero, firstE_nil, errIf_zero, outB_false, and_assoc]; omega
theorem firstBad_zero {α : Type} {chk : Nat → α → Int} {l : List α} {k : Nat} (h : (firstBadFrom chk k l).2 = 0) : ∀ i (hi : i < l.length), chk (k + i) l[i] = 0 := by
  intro i
  induction i using Nat.strongRecOn with
  | _ i ih =>
    intro hi
    by_cases hz : chk (k + i) l[i] = 0
    · exact hz
    · have := firstBadFrom_some chk l k i hi (fun j hj => ih j hj (by omega)) hz
      rw [this] at h
      exact h
/-- What a valid profile is. -/
structure Pro (base : Int) (l : List G) : Prop where
  b0 : 0 ≤ base
  b1 : base ≤ 500
  n0 : 1 ≤ l.length
  n1 : l.length ≤ 12
  all : ∀ g ∈ l, 0 ≤ g.1 ∧ g.1 ≤ 9000000 ∧ 0 ≤ g.2 ∧ g.2 ≤ 500
theorem proE_zero {base : Int} {l : List G} (h : (proE base l).2 = 0) : Pro base l := by
  unfold proE at h
  split at h
  · rename_i h0
    obtain ⟨a, b, c, d⟩ := proHead_zero.1 h0
    refine ⟨a, b, c, d, fun g hg => ?_⟩
    obtain ⟨i, hi, rfl⟩ := List.getElem_of_mem hg
    exact slabE_zero.1 (firstBad_zero h i hi)
  · rename_i h0; exact absurd h h0
theorem Pro.err {base : Int} {l : List G} (h : Pro base l) : proE base l = (0, 0) := by
  unfold proE
  rw [if_pos (proHead_zero.2 ⟨h.b0, h.b1, h.n0, h.n1⟩)]
  exact firstBadFrom_none _ _ _ fun i hi => slabE_zero.2 (h.all _ (List.getElem_mem hi))

/-- How many slabs a frequency passes. -/
def passN (l : List G) (f : Int) : Nat := (l.takeWhile fun g => decide (g.1 < f * f)).length
theorem passN_le (l : List G) (f : Int) : passN l f ≤ l.length := (List.takeWhile_prefix _).length_le
theorem passN_lt {l : List G} {f : Int} {k : Nat} (hk : k < passN l f) (h : k < l.length) : l[k].1 < f * f := by
  unfold passN at hk
  induction l generalizing k with
  | nil => simp at h
  | cons g l ih =>
    rw [List.takeWhile_cons] at hk
    split at hk
    · rename_i hg
      cases k with
      | zero => simpa using hg
      | succ k => exact ih (by simpa using hk) (by simpa using h)
    · simp at hk
theorem passN_at {l : List G} {f : Int} (h : passN l f < l.length) : f * f ≤ l[passN l f].1 := by
  unfold passN at h ⊢
  induction l with
  | nil => simp at h
  | cons g l ih =>
    simp only [List.takeWhile_cons] at h ⊢
    split at h
    · rename_i hg
      simp only [hg, if_true, List.length_cons, List.getElem_cons_succ] at h ⊢
      exact ih (by omega)
    · rename_i hg
      simp only [hg, Bool.false_eq_true, if_false, List.length_nil, List.getElem_cons_zero]
      simpa using hg
theorem passN_eq {l : List G} {f : Int} {k : Nat} (hk : k ≤ l.length) (h1 : ∀ j (h : j < l.length), j < k → l[j].1 < f * f) (h2 : ∀ h : k < l.length, f * f ≤ l[k].1) : passN l f = k := by
  rcases Nat.lt_trichotomy (passN l f) k with h | h | h
  · have := passN_at (l := l) (f := f) (by omega)
    have := h1 (passN l f) (by omega) h
    omega
  · exact h
  · have hl : k < l.length := by have := passN_le l f; omega
    have := passN_lt h hl
    have := h2 hl
    omega

def G0 : G := (0, 0)
/-- The height above the first k slabs. -/
def hgt (base : Int) (l : List G) : Nat → Int
  | 0 => base
  | k + 1 => hgt base l k + (l.getD k G0).2
/-- Thousandths of the virtual height of a frequency after the first k slabs. -/
def dly (base : Int) (l : List G) (f : Int) : Nat → G
  | 0 => (1000 * base, 1000 * base)
  | k + 1 => ((dly base l f k).1 + (l.getD k G0).2 * (idx (l.getD k G0).1 f).1, (dly base l f k).2 + (l.getD k G0).2 * (idx (l.getD k G0).1 f).2)
/-- The virtual height of a frequency that is reflected. -/
def virt (base : Int) (l : List G) (f : Int) : G := ((dly base l f (passN l f)).1 / 1000, up (dly base l f (passN l f)).2 1000)

theorem getD_at {α : Type} {l : List α} {k : Nat} (h : k < l.length) (d : α) : l.getD k d = l[k] := by simp [List.getD, h]
theorem Pro.at {base : Int} {l : List G} (h : Pro base l) {k : Nat} (hk : k < l.length) : 0 ≤ (l.getD k G0).1 ∧ (l.getD k G0).1 ≤ 9000000 ∧ 0 ≤ (l.getD k G0).2 ∧ (l.getD k G0).2 ≤ 500 := by
  rw [getD_at hk]; exact h.all _ (List.getElem_mem hk)

/-- Slabs that a frequency can be asked about. -/
structure Slabs (base : Int) (l : List G) : Prop where
  b0 : 0 ≤ base
  b1 : base ≤ 20000
  n1 : l.length ≤ 100
  all : ∀ g ∈ l, 0 ≤ g.1 ∧ g.1 ≤ 9000000 ∧ 0 ≤ g.2 ∧ g.2 ≤ 500
theorem Pro.slabs {base : Int} {l : List G} (h : Pro base l) : Slabs base l := ⟨h.b0, by have := h.b1; omega, by have := h.n1; omega, h.all⟩
theorem Slabs.at {base : Int} {l : List G} (h : Slabs base l) {k : Nat} (hk : k < l.length) : 0 ≤ (l.getD k G0).1 ∧ (l.getD k G0).1 ≤ 9000000 ∧ 0 ≤ (l.getD k G0).2 ∧ (l.getD k G0).2 ≤ 500 := by
  rw [getD_at hk]; exact h.all _ (List.getElem_mem hk)
theorem hgt_bd {base : Int} {l : List G} (h : Slabs base l) {k : Nat} (hk : k ≤ l.length) : base ≤ hgt base l k ∧ hgt base l k ≤ base + 500 * k := by
  induction k with
  | zero => simp [hgt]
  | succ k ih =>
    have := ih (by omega)
    have := h.at (k := k) (by omega)
    rw [hgt]; omega
theorem mul_bd {a b A B : Int} (h0 : 0 ≤ a) (h1 : a ≤ A) (k0 : 0 ≤ b) (k1 : b ≤ B) : 0 ≤ a * b ∧ a * b ≤ A * B :=
  ⟨Int.mul_nonneg h0 k0, Int.mul_le_mul h1 k1 k0 (by omega)⟩
theorem dly_step {base : Int} {l : List G} (h : Slabs base l) {f : Int} (h1 : 1 ≤ f) (h2 : f ≤ 3000) {k : Nat} (hk : k < passN l f) :
    0 ≤ (l.getD k G0).2 * (idx (l.getD k G0).1 f).1 ∧ (l.getD k G0).2 * (idx (l.getD k G0).1 f).1 ≤ (l.getD k G0).2 * (idx (l.getD k G0).1 f).2 ∧ (l.getD k G0).2 * (idx (l.getD k G0).1 f).2 ≤ 1500000000 ∧
    1000 * (l.getD k G0).2 ≤ (l.getD k G0).2 * (idx (l.getD k G0).1 f).1 := by
  have hl : k < l.length := by have := passN_le l f; omega
  have ha := h.at hl
  have hp := passN_lt hk hl
  rw [← getD_at hl G0] at hp
  obtain ⟨i1, i2, i3, i4⟩ := idx_bd h1 ha.1 hp
  have m1 := mul_bd ha.2.2.1 ha.2.2.2 (b := (idx (l.getD k G0).1 f).2) (B := 3000000) (by omega) (by omega)
  have m2 := mul_bd ha.2.2.1 ha.2.2.2 (b := (idx (l.getD k G0).1 f).1) (B := 3000000) (by omega) (by omega)
  have m3 := Int.mul_le_mul_of_nonneg_left i2 ha.2.2.1
  have m4 := Int.mul_le_mul_of_nonneg_left i1 ha.2.2.1
  omega
theorem dly_bd {base : Int} {l : List G} (h : Slabs base l) {f : Int} (h1 : 1 ≤ f) (h2 : f ≤ 3000) {k : Nat} (hk : k ≤ passN l f) :
    0 ≤ (dly base l f k).1 ∧ (dly base l f k).1 ≤ (dly base l f k).2 ∧ (dly base l f k).2 ≤ 20000000 + 1500000000 * k ∧ 1000 * hgt base l k ≤ (dly base l f k).1 := by
  induction k with
  | zero => have := h.b0; have := h.b1; simp [dly, hgt]; omega
  | succ k ih =>
    have := ih (by omega)
    have := dly_step h h1 h2 (k := k) (by omega)
    simp only [dly, hgt]; omega
end Go.Proofs.Ytdeehodekilaiaa

/- Traces, laminations and fits as plain data. No condition. -/
namespace Go.Proofs.Ytdeehodekilaiaa

/-- A point: its frequency, and its pixel. -/
abbrev PT := Int × Int × Int
def P0 : PT := (0, 0, 0)
def pixE (lo hi : Int) : Int := firstE [errIf (outB lo 0 20000 || outB hi 0 20000) 2, errIf (decide (hi < lo)) 9]
def pointE (l : List PT) (k : Nat) (p : PT) : Int := firstE [freqE p.1, pixE p.2.1 p.2.2, errIf (decide (0 < k) && decide (p.1 ≤ (l.getD (k - 1) P0).1)) 9]
def trHead (n after width : Int) : Int := firstE [errIf (n == 0) 10, errIf (decide (8 < n)) 8, errIf (outB width 0 500) 2, errIf (outB after 0 (n - 1)) 6]
def trE (l : List PT) (after width : Int) : Int × Int := if trHead l.length after width = 0 then firstBadFrom (pointE l) 0 l else (0, trHead l.length after width)

theorem pixE_zero {lo hi : Int} : pixE lo hi = 0 ↔ 0 ≤ lo ∧ lo ≤ hi ∧ hi ≤ 20000 := by
  simp [pixE, firstE_cons_zero, firstE_nil, errIf_zero, outB_false, and_assoc]; omega
theorem pointE_zero {l : List PT} {k : Nat} {p : PT} : pointE l k p = 0 ↔ 1 ≤ p.1 ∧ p.1 ≤ 3000 ∧ 0 ≤ p.2.1 ∧ p.2.1 ≤ p.2.2 ∧ p.2.2 ≤ 20000 ∧ (0 < k → (l.getD (k - 1) P0).1 < p.1) := by
  simp [pointE, firstE_cons_zero, firstE_nil, errIf_zero, pixE_zero, freqE_zero, and_assoc]
theorem trHead_zero {n : Nat} {after width : Int} : trHead n after width = 0 ↔ 1 ≤ n ∧ n ≤ 8 ∧ 0 ≤ width ∧ width ≤ 500 ∧ 0 ≤ after ∧ after ≤ (n : Int) - 1 := by
  simp [trHead, firstE_cons_zero, firstE_nil, errIf_zero, outB_false, and_assoc]; omega

def pf (l : List PT) (k : Nat) : Int := (l.getD k P0).1
def plo (l : List PT) (k : Nat) : Int := (l.getD k P0).2.1
def phi (l : List PT) (k : Nat) : Int := (l.getD k P0).2.2
/-- What a valid trace is. -/
structure Tr (l : List PT) (after width : Int) : Prop where
  n0 : 1 ≤ l.length
  n1 : l.length ≤ 8
  w0 : 0 ≤ width
  w1 : width ≤ 500
  a0 : 0 ≤ after
  a1 : after ≤ (l.length : Int) - 1
  pt : ∀ k, k < l.length → 1 ≤ pf l k ∧ pf l k ≤ 3000 ∧ 0 ≤ plo l k ∧ plo l k ≤ phi l k ∧ phi l k ≤ 20000
  up : ∀ k, k + 1 < l.length → pf l k < pf l (k + 1)
theorem trE_zero {l : List PT} {after width : Int} (h : (trE l after width).2 = 0) : Tr l after width := by
  unfold trE at h
  split at h
  · rename_i h0
    obtain ⟨a, b, c, d, e, f⟩ := trHead_zero.1 h0
    have hp : ∀ k (hk : k < l.length), pointE l k l[k] = 0 := fun k hk => by have := firstBad_zero h k hk; simpa using this
    refine ⟨a, b, c, d, e, f, fun k hk => ?_, fun k hk => ?_⟩
    · have := pointE_zero.1 (hp k hk)
      unfold pf plo phi
      rw [getD_at hk]
      omega
    · have := (pointE_zero.1 (hp (k + 1) hk)).2.2.2.2.2 (by omega)
      unfold pf
      rw [getD_at hk]
      simpa using this
  · rename_i h0; exact absurd h h0
theorem Tr.err {l : List PT} {after width : Int} (h : Tr l after width) : trE l after width = (0, 0) := by
  unfold trE
  rw [if_pos (trHead_zero.2 ⟨h.n0, h.n1, h.w0, h.w1, h.a0, h.a1⟩)]
  refine firstBadFrom_none _ _ _ fun i hi => ?_
  have h1 := h.pt i hi
  unfold pf plo phi at h1
  rw [getD_at hi] at h1
  refine pointE_zero.2 ⟨by omega, by omega, by omega, by omega, by omega, fun h0 => ?_⟩
  simp only [Nat.zero_add] at h0 ⊢
  have := h.up (i - 1) (by omega)
  unfold pf at this
  rw [show i - 1 + 1 = i by omega, getD_at hi] at this
  exact this
theorem Tr.lt {l : List PT} {after width : Int} (h : Tr l after width) {j k : Nat} (hjk : j < k) (hk : k < l.length) : pf l j < pf l k := by
  induction k with
  | zero => omega
  | succ k ih =>
    have h1 := h.up k hk
    rcases Nat.lt_or_ge j k with h2 | h2
    · have := ih h2 (by omega); omega
    · have : j = k := by omega
      subst this; exact h1
theorem sq_lt_sq {a b : Int} (h0 : 0 ≤ a) (h : a < b) : a * a < b * b := by
  have h1 := Int.mul_le_mul (show a ≤ b - 1 by omega) (show a ≤ b - 1 by omega) h0 (by omega)
  have h2 : (b - 1) * (b - 1) = b * b - 2 * b + 1 := by rw [Int.sub_mul, Int.mul_sub]; omega
  omega
/-- The index in the slab j of the frequency of the point k. -/
def pI (l : List PT) (j k : Nat) : G := idx (pf l j * pf l j) (pf l k)
theorem Tr.sq {l : List PT} {after width : Int} (h : Tr l after width) {j k : Nat} (hjk : j < k) (hk : k < l.length) : pf l j * pf l j < pf l k * pf l k := by
  have h1 := (h.pt j (by omega)).1
  exact sq_lt_sq (by omega) (h.lt hjk hk)
theorem Tr.sqb {l : List PT} {after width : Int} (h : Tr l after width) {j : Nat} (hj : j < l.length) : 1 ≤ pf l j * pf l j ∧ pf l j * pf l j ≤ 9000000 := by
  have h1 := h.pt j hj
  have h2 := Int.mul_le_mul h1.2.1 h1.2.1 (by omega) (by omega)
  have h3 := Int.mul_pos (show 0 < pf l j by omega) (show 0 < pf l j by omega)
  omega
theorem Tr.pI {l : List PT} {after width : Int} (h : Tr l after width) {j k : Nat} (hjk : j < k) (hk : k < l.length) : 1000 ≤ (pI l j k).1 ∧ (pI l j k).1 ≤ (pI l j k).2 ∧ (pI l j k).2 ≤ (pI l j k).1 + 1 ∧ (pI l j k).2 ≤ 3000000 := by
  have h1 := h.pt k hk
  have := idx_bd h1.1 (by have := h.sqb (j := j) (by omega); omega) (h.sq hjk hk)
  unfold Go.Proofs.Ytdeehodekilaiaa.pI
  omega

/-- What the first j slabs below leave of A to B for the next slab. -/
def lefts (l : List PT) (k : Nat) (below : List G) (A : G) : Nat → G
  | 0 => A
  | j + 1 => ((lefts l k below A j).1 - (below.getD j G0).2 * (pI l j k).2, (lefts l k below A j).2 - (below.getD j G0).1 * (pI l j k).1)
/-- What the slabs below and the valley leave. -/
def leftL (l : List PT) (after width : Int) (below : List G) : G :=
  ((lefts l (below.length + 1) below (1000 * (plo l (below.length + 1) - phi l 0), 1000 * (phi l (below.length + 1) - plo l 0)) below.length).1 - (if after ≤ (below.length : Int) then width * (pI l after.toNat (below.length + 1)).2 else 0),
   (lefts l (below.length + 1) below (1000 * (plo l (below.length + 1) - phi l 0), 1000 * (phi l (below.length + 1) - plo l 0)) below.length).2)
def slabOf (l : List PT) (after width : Int) (below : List G) : G :=
  (max 0 (leftL l after width below).1 / (pI l below.length (below.length + 1)).2, up (leftL l after width below).2 (pI l below.length (below.length + 1)).1)
/-- The first k slabs, or the point that contradicts those below. -/
def lam (l : List PT) (after width : Int) : Nat → List G × Nat
  | 0 => ([], 0)
  | k + 1 => if (lam l after width k).2 = 0 then
      if (leftL l after width (lam l after width k).1).2 < 0 then ([], k + 1) else ((lam l after width k).1 ++ [slabOf l after width (lam l after width k).1], 0)
    else lam l after width k
theorem lam_length {l : List PT} {after width : Int} {k : Nat} (h : (lam l after width k).2 = 0) : (lam l after width k).1.length = k := by
  induction k with
  | zero => rfl
  | succ k ih =>
    rw [lam] at h ⊢
    split at h
    · rename_i h0
      rw [if_pos h0]
      split at h
      · simp at h
      · rename_i h1
        rw [if_neg h1]
        simp [ih h0]
    · rename_i h0; exact absurd h h0
theorem lam_prev {l : List PT} {after width : Int} {k j : Nat} (h : (lam l after width k).2 = 0) (hj : j ≤ k) : (lam l after width j).2 = 0 := by
  induction k with
  | zero => have : j = 0 := by omega
            subst this; rfl
  | succ k ih =>
    rcases Nat.lt_or_ge k j with h1 | h1
    · have : j = k + 1 := by omega
      subst this; exact h
    · refine ih ?_ h1
      rw [lam] at h
      split at h
      · assumption
      · rename_i h0; exact absurd h h0
/-- A contradiction stays. -/
theorem lam_stays {l : List PT} {after width : Int} {k j : Nat} (h : (lam l after width k).2 ≠ 0) (hj : k ≤ j) : lam l after width j = lam l after width k := by
  induction j with
  | zero => have : k = 0 := by omega
            subst this; rfl
  | succ j ih =>
    rcases Nat.lt_or_ge j k with h1 | h1
    · have : k = j + 1 := by omega
      subst this; rfl
    · have := ih h1
      rw [lam, this, if_neg h]

/-- Thicknesses that can come. -/
def Thick (below : List G) : Prop := ∀ g ∈ below, 0 ≤ g.1 ∧ g.1 ≤ 40000 ∧ 0 ≤ g.2 ∧ g.2 ≤ 40000
end Go.Proofs.Ytdeehodekilaiaa

/- Bounds of laminations, heights, fits as plain data. No condition. -/
namespace Go.Proofs.Ytdeehodekilaiaa

theorem Thick.at {below : List G} (h : Thick below) (j : Nat) : 0 ≤ (below.getD j G0).1 ∧ (below.getD j G0).1 ≤ 40000 ∧ 0 ≤ (below.getD j G0).2 ∧ (below.getD j G0).2 ≤ 40000 := by
  rcases Nat.lt_or_ge j below.length with hj | hj
  · rw [getD_at hj]; exact h _ (List.getElem_mem hj)
  · rw [List.getD, List.getElem?_eq_none hj]; simp [G0]
theorem lefts_step {l : List PT} {after width : Int} (h : Tr l after width) {below : List G} (hT : Thick below) {j k : Nat} (hjk : j < k) (hk : k < l.length) :
    0 ≤ (below.getD j G0).2 * (pI l j k).2 ∧ (below.getD j G0).2 * (pI l j k).2 ≤ 120000000000 ∧ 0 ≤ (below.getD j G0).1 * (pI l j k).1 ∧ (below.getD j G0).1 * (pI l j k).1 ≤ 120000000000 := by
  obtain ⟨i1, i2, i3, i4⟩ := h.pI hjk hk
  obtain ⟨a1, a2, a3, a4⟩ := hT.at j
  have m1 := mul_bd a3 a4 (b := (pI l j k).2) (B := 3000000) (by omega) i4
  have m2 := mul_bd a1 a2 (b := (pI l j k).1) (B := 3000000) (by omega) (by omega)
  omega
theorem lefts_bd {l : List PT} {after width : Int} (h : Tr l after width) {below : List G} (hT : Thick below) (A : G) {j k : Nat} (hjk : j ≤ k) (hk : k < l.length) :
    (lefts l k below A j).1 ≤ A.1 ∧ A.1 - 120000000000 * j ≤ (lefts l k below A j).1 ∧ (lefts l k below A j).2 ≤ A.2 ∧ A.2 - 120000000000 * j ≤ (lefts l k below A j).2 := by
  induction j with
  | zero => simp [lefts]
  | succ j ih =>
    have := ih (by omega)
    have := lefts_step h hT (j := j) (by omega) hk
    simp only [lefts]
    omega
theorem valley_bd {l : List PT} {after width : Int} (h : Tr l after width) {k : Nat} (hk : k < l.length) (ha : after < (k : Int)) : 0 ≤ width * (pI l after.toNat k).2 ∧ width * (pI l after.toNat k).2 ≤ 1500000000 := by
  have h0 := h.a0
  obtain ⟨i1, i2, i3, i4⟩ := h.pI (j := after.toNat) (k := k) (by omega) hk
  have := mul_bd h.w0 h.w1 (b := (pI l after.toNat k).2) (B := 3000000) (by omega) i4
  omega
theorem leftL_bd {l : List PT} {after width : Int} (h : Tr l after width) {below : List G} (hT : Thick below) (hk : below.length + 1 < l.length) :
    (leftL l after width below).1 ≤ 20000000 ∧ -1000000000000 ≤ (leftL l after width below).1 ∧ (leftL l after width below).2 ≤ 20000000 ∧ -1000000000000 ≤ (leftL l after width below).2 := by
  have hb := lefts_bd h hT (1000 * (plo l (below.length + 1) - phi l 0), 1000 * (phi l (below.length + 1) - plo l 0)) (j := below.length) (k := below.length + 1) (by omega) hk
  have p0 := h.pt 0 (by omega)
  have p1 := h.pt (below.length + 1) hk
  have n1 := h.n1
  unfold leftL
  dsimp only at hb ⊢
  split
  · have := valley_bd h hk (by omega)
    omega
  · omega
theorem slabOf_bd {l : List PT} {after width : Int} (h : Tr l after width) {below : List G} (hT : Thick below) (hk : below.length + 1 < l.length) (h0 : 0 ≤ (leftL l after width below).2) :
    0 ≤ (slabOf l after width below).1 ∧ (slabOf l after width below).1 ≤ 20000 ∧ 0 ≤ (slabOf l after width below).2 ∧ (slabOf l after width below).2 ≤ 20000 := by
  obtain ⟨b1, b2, b3, b4⟩ := leftL_bd h hT hk
  obtain ⟨i1, i2, i3, i4⟩ := h.pI (j := below.length) (k := below.length + 1) (by omega) hk
  unfold slabOf
  dsimp only
  have hm : 0 ≤ max 0 (leftL l after width below).1 := Int.le_max_left _ _
  have hM : max 0 (leftL l after width below).1 ≤ 20000000 := by rw [Int.max_le]; omega
  refine ⟨Int.ediv_nonneg hm (by omega), ?_, up_nonneg (by omega) h0, ?_⟩
  · have := (Int.ediv_lt_iff_lt_mul (a := max 0 (leftL l after width below).1) (b := 20001) (show 0 < (pI l below.length (below.length + 1)).2 by omega)).2 (by
      have := Int.mul_le_mul_of_nonneg_left (show 1000 ≤ (pI l below.length (below.length + 1)).2 by omega) (show (0 : Int) ≤ 20001 by omega)
      omega)
    omega
  · refine (up_le (by omega)).2 ?_
    have := Int.mul_le_mul_of_nonneg_left (show 1000 ≤ (pI l below.length (below.length + 1)).1 by omega) (show (0 : Int) ≤ 20000 by omega)
    omega
theorem lam_thick {l : List PT} {after width : Int} (h : Tr l after width) {k : Nat} (hk : k < l.length) : Thick (lam l after width k).1 := by
  induction k with
  | zero => simp [lam, Thick]
  | succ k ih =>
    have hT := ih (by omega)
    rw [lam]
    split
    · rename_i h0
      split
      · simp [Thick]
      · rename_i h1
        intro g hg
        rcases List.mem_append.1 hg with hg | hg
        · exact hT g hg
        · have hl := lam_length h0
          obtain ⟨s1, s2, s3, s4⟩ := slabOf_bd h hT (by omega) (by omega)
          simp only [List.mem_singleton] at hg
          subst hg
          omega
    · exact hT

/-- The true height of the point k. -/
def sums (L : List G) : Nat → G
  | 0 => (0, 0)
  | k + 1 => ((sums L k).1 + (L.getD k G0).1, (sums L k).2 + (L.getD k G0).2)
def htL (l : List PT) (after width : Int) (L : List G) (k : Nat) : G := (plo l 0 + (sums L k).1, phi l 0 + (sums L k).2 + (if after < (k : Int) then width else 0))
theorem sums_bd {L : List G} (h : Thick L) (k : Nat) : 0 ≤ (sums L k).1 ∧ (sums L k).1 ≤ 40000 * k ∧ 0 ≤ (sums L k).2 ∧ (sums L k).2 ≤ 40000 * k := by
  induction k with
  | zero => simp [sums]
  | succ k ih =>
    have := h.at k
    simp only [sums]; omega

/-- The slab of a fit above the slabs acc: its thickness, and the error of its point. -/
def fitT (l : List PT) (acc : List G) : Int := up (max 0 (1000 * (plo l (acc.length + 1) - 1) + 1 - (dly (plo l 0) acc (pf l (acc.length + 1)) acc.length).2)) (pI l acc.length (acc.length + 1)).2
def fitE (l : List PT) (acc : List G) : Int :=
  firstE [errIf (decide (500 < fitT l acc)) 22, errIf (decide (phi l (acc.length + 1) < ((dly (plo l 0) acc (pf l (acc.length + 1)) acc.length).1 + fitT l acc * (pI l acc.length (acc.length + 1)).1) / 1000)) 12]
/-- The first k slabs of a fit, or the point that fails, with its error. -/
def fit (l : List PT) : Nat → List G × Nat × Int
  | 0 => ([], 0, 0)
  | k + 1 => if (fit l k).2.2 = 0 then
      if fitE l (fit l k).1 = 0 then ((fit l k).1 ++ [(pf l k * pf l k, fitT l (fit l k).1)], 0, 0) else ([], k + 1, fitE l (fit l k).1)
    else fit l k
theorem fit_length {l : List PT} {k : Nat} (h : (fit l k).2.2 = 0) : (fit l k).1.length = k := by
  induction k with
  | zero => rfl
  | succ k ih =>
    rw [fit] at h ⊢
    split at h
    · rename_i h0
      rw [if_pos h0]
      split at h
      · rename_i h1
        rw [if_pos h1]
        simp [ih h0]
      · rename_i h1; exact absurd h h1
    · rename_i h0; exact absurd h h0
theorem fitT_nonneg {l : List PT} {after width : Int} (h : Tr l after width) {acc : List G} (hk : acc.length + 1 < l.length) : 0 ≤ fitT l acc := by
  obtain ⟨i1, i2, i3, i4⟩ := h.pI (j := acc.length) (k := acc.length + 1) (by omega) hk
  exact up_nonneg (by omega) (Int.le_max_left _ _)
/-- What is fitted. -/
structure FitOk (l : List PT) (acc : List G) : Prop where
  sq : ∀ j, j < acc.length → (acc.getD j G0).1 = pf l j * pf l j
  th : ∀ j, j < acc.length → 0 ≤ (acc.getD j G0).2 ∧ (acc.getD j G0).2 ≤ 500
theorem fit_ok {l : List PT} {after width : Int} (h : Tr l after width) {k : Nat} (hk : k < l.length) : FitOk l (fit l k).1 := by
  induction k with
  | zero => exact ⟨by simp [fit], by simp [fit]⟩
  | succ k ih =>
    have hT := ih (by omega)
    rw [fit]
    split
    · rename_i h0
      split
      · rename_i h1
        have hl := fit_length h0
        have ht := fitT_nonneg h (acc := (fit l k).1) (by omega)
        have h5 : fitT l (fit l k).1 ≤ 500 := by
          unfold fitE at h1
          rw [firstE_cons_zero, errIf_zero (by decide)] at h1
          simpa using h1.1
        generalize fitT l (fit l k).1 = t at ht h5
        refine ⟨fun j hj => ?_, fun j hj => ?_⟩
        · rw [List.length_append, List.length_singleton, hl] at hj
          rcases Nat.lt_or_ge j k with hjk | hjk
          · have := hT.sq j (by omega)
            rw [List.getD, List.getElem?_append_left (by omega)]
            exact this
          · have : j = k := by omega
            subst this
            rw [List.getD, List.getElem?_append_right (by omega), hl]
            simp
        · rw [List.length_append, List.length_singleton, hl] at hj
          rcases Nat.lt_or_ge j k with hjk | hjk
          · have := hT.th j (by omega)
            rw [List.getD, List.getElem?_append_left (by omega)]
            exact this
          · have : j = k := by omega
            subst this
            rw [List.getD, List.getElem?_append_right (by omega), hl]
            simp; omega
      · exact ⟨by simp, by simp⟩
    · exact hT
theorem FitOk.slabs {l : List PT} {after width : Int} (h : Tr l after width) {acc : List G} (hf : FitOk l acc) (hk : acc.length < l.length) : Slabs (plo l 0) acc := by
  have p0 := h.pt 0 (by omega)
  have n1 := h.n1
  refine ⟨by omega, by omega, by omega, fun g hg => ?_⟩
  obtain ⟨i, hi, rfl⟩ := List.getElem_of_mem hg
  have h1 := hf.sq i hi
  have h2 := hf.th i hi
  have h3 := h.sqb (j := i) (by omega)
  rw [getD_at hi] at h1 h2
  omega
theorem FitOk.pass {l : List PT} {after width : Int} (h : Tr l after width) {acc : List G} (hf : FitOk l acc) {k : Nat} (hk : k < l.length) (ha : acc.length ≤ k) : passN acc (pf l k) = acc.length := by
  refine passN_eq (Nat.le_refl _) (fun j hj _ => ?_) (fun h => absurd h (by omega))
  have h1 := hf.sq j hj
  rw [getD_at hj] at h1
  rw [h1]
  exact h.sq (by omega) hk
end Go.Proofs.Ytdeehodekilaiaa

/- Squares at heights, contents, distances as plain data. No condition. -/
namespace Go.Proofs.Ytdeehodekilaiaa

/-- The square at a height, of slabs from a border on. -/
def plG (h : Int) : Int → List G → Int
  | _, [] => 0
  | b, g :: l => if h < b + g.2 then g.1 else plG h (b + g.2) l
/-- The square at a height. -/
def plasma (base : Int) (l : List G) (h : Int) : Int := if h < base then 0 else plG h base l
theorem plG_step {h base : Int} {l : List G} {k : Nat} (hk : k < l.length) : plG h (hgt base l k) (l.drop k) = if h < hgt base l (k + 1) then l[k].1 else plG h (hgt base l (k + 1)) (l.drop (k + 1)) := by
  rw [List.drop_eq_getElem_cons hk, plG, hgt, getD_at hk]
theorem plG_end (h b : Int) (l : List G) {k : Nat} (hk : l.length ≤ k) : plG h b (l.drop k) = 0 := by
  rw [List.drop_eq_nil_of_le hk]; rfl
theorem hgt_mono {base : Int} {l : List G} (hl : ∀ g ∈ l, 0 ≤ g.2) {j k : Nat} (hjk : j ≤ k) : hgt base l j ≤ hgt base l k := by
  induction k with
  | zero => have : j = 0 := by omega
            subst this; omega
  | succ k ih =>
    rcases Nat.lt_or_ge k j with h | h
    · have : j = k + 1 := by omega
      subst this; omega
    · have h1 := ih h
      rw [hgt]
      have : 0 ≤ (l.getD k G0).2 := by
        rcases Nat.lt_or_ge k l.length with h2 | h2
        · rw [getD_at h2]; exact hl _ (List.getElem_mem h2)
        · rw [List.getD, List.getElem?_eq_none h2]; simp [G0]
      omega
theorem plG_bd {h b : Int} {l : List G} (hl : ∀ g ∈ l, 0 ≤ g.1 ∧ g.1 ≤ 9000000) : 0 ≤ plG h b l ∧ plG h b l ≤ 9000000 := by
  induction l generalizing b with
  | nil => simp [plG]
  | cons g l ih =>
    rw [plG]
    split
    · exact hl g (by simp)
    · exact ih fun g hg => hl g (by simp [hg])
theorem plasma_bd {base h : Int} {l : List G} (hl : ∀ g ∈ l, 0 ≤ g.1 ∧ g.1 ≤ 9000000) : 0 ≤ plasma base l h ∧ plasma base l h ≤ 9000000 := by
  unfold plasma
  split
  · omega
  · exact plG_bd hl
/-- Above the top there is nothing. -/
theorem plG_top {h base : Int} {l : List G} (hl : ∀ g ∈ l, 0 ≤ g.2) (hh : hgt base l l.length ≤ h) (k : Nat) (hk : k ≤ l.length) : plG h (hgt base l k) (l.drop k) = 0 := by
  obtain ⟨m, hm⟩ : ∃ m, l.length - k = m := ⟨_, rfl⟩
  induction m generalizing k with
  | zero => exact plG_end _ _ _ (by omega)
  | succ m ih =>
    rw [plG_step (show k < l.length by omega), if_neg (by have := hgt_mono (base := base) hl (show k + 1 ≤ l.length by omega); omega)]
    exact ih (k + 1) (by omega) (by omega)
theorem plasma_top {h base : Int} {l : List G} (hl : ∀ g ∈ l, 0 ≤ g.2) (hh : hgt base l l.length ≤ h) : plasma base l h = 0 := by
  unfold plasma
  split
  · rfl
  · exact plG_top hl hh 0 (by omega)

/-- The first slab with the maximum square, of the first k. -/
def bestI (l : List G) : Nat → Nat
  | 0 => 0
  | k + 1 => if (l.getD (bestI l k) G0).1 < (l.getD k G0).1 then k else bestI l k
theorem bestI_lt (l : List G) {k : Nat} (hk : 1 ≤ k) : bestI l k < k := by
  induction k with
  | zero => omega
  | succ k ih =>
    rw [bestI]
    split
    · omega
    · rcases Nat.eq_zero_or_pos k with h | h
      · subst h; simp [bestI]
      · have := ih h; omega
theorem bestI_le (l : List G) (k : Nat) : bestI l k ≤ k := by
  rcases Nat.eq_zero_or_pos k with h | h
  · subst h; simp [bestI]
  · have := bestI_lt l h; omega
def content (l : List G) : Nat → Int
  | 0 => 0
  | k + 1 => content l k + (l.getD k G0).1 * (l.getD k G0).2
theorem content_step {base : Int} {l : List G} (h : Slabs base l) {k : Nat} (hk : k < l.length) : 0 ≤ (l.getD k G0).1 * (l.getD k G0).2 ∧ (l.getD k G0).1 * (l.getD k G0).2 ≤ 4500000000 := by
  obtain ⟨a1, a2, a3, a4⟩ := h.at hk
  have := mul_bd a1 a2 a3 a4
  omega
theorem content_bd {base : Int} {l : List G} (h : Slabs base l) {k : Nat} (hk : k ≤ l.length) : 0 ≤ content l k ∧ content l k ≤ 4500000000 * k := by
  induction k with
  | zero => simp [content]
  | succ k ih =>
    have := ih (by omega)
    have := content_step h (k := k) (by omega)
    simp only [content]; omega

def absI (n : Int) : Int := max n (-n)
theorem absI_le (n : Int) : n ≤ absI n ∧ -n ≤ absI n ∧ 0 ≤ absI n := by unfold absI; omega
/-- The sum of the differences of two functions below n. -/
def dst (p q : Int → Int) : Nat → Int
  | 0 => 0
  | n + 1 => dst p q n + absI (p n - q n)
theorem dst_bd {p q : Int → Int} (hp : ∀ h, 0 ≤ p h ∧ p h ≤ 9000000) (hq : ∀ h, 0 ≤ q h ∧ q h ≤ 9000000) (n : Nat) : 0 ≤ dst p q n ∧ dst p q n ≤ 9000000 * n := by
  induction n with
  | zero => simp [dst]
  | succ n ih =>
    have h1 := hp n
    have h2 := hq n
    simp only [dst]
    have : 0 ≤ absI (p n - q n) ∧ absI (p n - q n) ≤ 9000000 := by unfold absI; omega
    omega
theorem dst_more {p q : Int → Int} {n m : Nat} (hnm : n ≤ m) (hp : ∀ h : Int, (n : Int) ≤ h → p h = 0) (hq : ∀ h : Int, (n : Int) ≤ h → q h = 0) : dst p q m = dst p q n := by
  induction m with
  | zero => have : n = 0 := by omega
            subst this; rfl
  | succ m ih =>
    rcases Nat.lt_or_ge m n with h | h
    · have : n = m + 1 := by omega
      subst this; rfl
    · rw [dst, ih h, hp m (by omega), hq m (by omega)]
      simp [absI]
theorem dst_self (p : Int → Int) (n : Nat) : dst p p n = 0 := by
  induction n with
  | zero => rfl
  | succ n ih => rw [dst, ih]; simp [absI]
theorem dst_symm (p q : Int → Int) (n : Nat) : dst p q n = dst q p n := by
  induction n with
  | zero => rfl
  | succ n ih => rw [dst, dst, ih]; unfold absI; omega
theorem dst_tri (p q r : Int → Int) (n : Nat) : dst p q n ≤ dst p r n + dst r q n := by
  induction n with
  | zero => simp [dst]
  | succ n ih => simp only [dst]; unfold absI; omega

/-- The distance of two profiles, up to a height that neither reaches. -/
def distN (a : Int) (l : List G) (b : Int) (m : List G) : Nat := (max (hgt a l l.length) (hgt b m m.length)).toNat
def dist (a : Int) (l : List G) (b : Int) (m : List G) : Int := dst (plasma a l) (plasma b m) (distN a l b m)
theorem dist_more {a b : Int} {l m : List G} (ha : 0 ≤ a) (hl : ∀ g ∈ l, 0 ≤ g.2) (hm : ∀ g ∈ m, 0 ≤ g.2) {n : Nat} (hn : distN a l b m ≤ n) : dist a l b m = dst (plasma a l) (plasma b m) n := by
  have h0 : a ≤ hgt a l l.length := hgt_mono (base := a) hl (Nat.zero_le _)
  unfold dist
  refine (dst_more hn (fun h hh => plasma_top hl ?_) (fun h hh => plasma_top hm ?_)).symm
  · unfold distN at hh; omega
  · unfold distN at hh; omega
end Go.Proofs.Ytdeehodekilaiaa

/- Thicker is higher: monotony of virtual heights. No condition. -/
namespace Go.Proofs.Ytdeehodekilaiaa

theorem mul_mono {a b c d : Int} (h0 : 0 ≤ a) (h1 : a ≤ c) (k0 : 0 ≤ b) (k1 : b ≤ d) : a * b ≤ c * d := Int.mul_le_mul h1 k1 k0 (by omega)
theorem dly_mono {a b : Int} {l m : List G} {f : Int} (h1 : 1 ≤ f) (hab : a ≤ b) (n : Nat)
    (h : ∀ k, k < n → 0 ≤ (l.getD k G0).1 ∧ (l.getD k G0).1 ≤ (m.getD k G0).1 ∧ (m.getD k G0).1 < f * f ∧ 0 ≤ (l.getD k G0).2 ∧ (l.getD k G0).2 ≤ (m.getD k G0).2) :
    (dly a l f n).1 ≤ (dly b m f n).1 ∧ (dly a l f n).2 ≤ (dly b m f n).2 := by
  induction n with
  | zero => simp [dly]; omega
  | succ n ih =>
    have := ih fun k hk => h k (by omega)
    obtain ⟨a1, a2, a3, a4, a5⟩ := h n (by omega)
    have hm := idx_mono h1 a2 a3
    have hb := idx_bd (sq := (l.getD n G0).1) h1 a1 (by omega)
    have m1 := mul_mono a4 a5 (b := (idx (l.getD n G0).1 f).1) (by omega) hm.1
    have m2 := mul_mono a4 a5 (b := (idx (l.getD n G0).1 f).2) (by omega) hm.2
    simp only [dly]
    omega
theorem up_mono {a b d : Int} (hd : 0 < d) (h : a ≤ b) : up a d ≤ up b d := by
  unfold up; exact Int.ediv_le_ediv hd (by omega)
theorem passN_mono {l : List G} {f g : Int} (h0 : 0 ≤ f) (h : f ≤ g) : passN l f ≤ passN l g := by
  rcases Nat.lt_or_ge (passN l g) (passN l f) with h1 | h1
  · have h2 := passN_le l f
    have h3 := passN_lt h1 (by omega)
    have h4 := passN_at (l := l) (f := g) (by omega)
    have h5 := Int.mul_le_mul h h h0 (by omega)
    omega
  · exact h1
/-- A virtual height is at least the true one, and at most so great. -/
theorem virt_bd {base : Int} {l : List G} (h : Slabs base l) {f : Int} (h1 : 1 ≤ f) (h2 : f ≤ 3000) :
    hgt base l (passN l f) ≤ (virt base l f).1 ∧ (virt base l f).1 ≤ (virt base l f).2 ∧ (virt base l f).2 ≤ 1000000000 ∧ 0 ≤ (virt base l f).1 := by
  obtain ⟨a1, a2, a3, a4⟩ := dly_bd h h1 h2 (Nat.le_refl _)
  have hn := passN_le l f
  have hl := h.n1
  unfold virt up
  dsimp only
  omega

/-- A slab turned: its thickness and its square. -/
theorem getD_set {l : List G} {i k : Nat} {g : G} (_ : i < l.length) : (l.set i g).getD k G0 = if k = i then g else l.getD k G0 := by
  rw [List.getD, List.getD, List.getElem?_set]
  split
  · rename_i h; subst h; simp
  · rename_i h; rw [if_neg (Ne.symm h)]
theorem passN_set {l : List G} {f : Int} {i : Nat} {g : G} (hi : i < l.length) (h : if i < passN l f then g.1 < f * f else g.1 = l[i].1) : passN (l.set i g) f = passN l f := by
  have hn := passN_le l f
  refine passN_eq (by simpa using hn) (fun j hj hjk => ?_) (fun hk => ?_)
  · rw [List.getElem_set]
    split
    · rename_i e; subst e; rw [if_pos hjk] at h; exact h
    · exact passN_lt hjk (by omega)
  · have hk' : passN l f < l.length := by simpa using hk
    rw [List.getElem_set]
    have := passN_at hk'
    split
    · rename_i e; subst e; rw [if_neg (by omega)] at h; rw [h]; exact this
    · exact this
theorem dly_set {base b2 : Int} {l : List G} (hs : Slabs base l) {f : Int} (h1 : 1 ≤ f) (hb : base ≤ b2) {i : Nat} {g : G} (hi : i < l.length) (h : if i < passN l f then g.1 < f * f else g.1 = l[i].1) (hg : l[i].1 ≤ g.1) (ht : l[i].2 ≤ g.2) :
    (virt base l f).1 ≤ (virt b2 (l.set i g) f).1 ∧ (virt base l f).2 ≤ (virt b2 (l.set i g) f).2 := by
  unfold virt
  rw [passN_set hi h]
  have hn := passN_le l f
  obtain ⟨m1, m2⟩ := dly_mono (a := base) (b := b2) (l := l) (m := l.set i g) h1 hb (passN l f) (fun k hk => by
    have ha := hs.at (k := k) (by omega)
    have hp := passN_lt hk (by omega)
    rw [← getD_at (show k < l.length by omega) G0] at hp
    rw [getD_set hi]
    split
    · rename_i e
      subst e
      rw [if_pos hk] at h
      rw [getD_at hi] at ha ⊢
      omega
    · omega)
  exact ⟨Int.ediv_le_ediv (by decide) m1, up_mono (by decide) m2⟩
end Go.Proofs.Ytdeehodekilaiaa

/- Whatever the heights are, thicknesses lie in the lamination. Plain numbers; no condition. -/
namespace Go.Proofs.Ytdeehodekilaiaa

/-- What the first j slabs of thicknesses ts delay the frequency of the point k. -/
def tsum (l : List PT) (k : Nat) (ts : List Int) : Nat → G
  | 0 => (0, 0)
  | j + 1 => ((tsum l k ts j).1 + ts.getD j 0 * (pI l j k).1, (tsum l k ts j).2 + ts.getD j 0 * (pI l j k).2)
/-- What the valley delays. -/
def vsum (l : List PT) (k : Nat) (after w s : Int) : G := if after < (k : Int) then (w * (idx s (pf l k)).1, w * (idx s (pf l k)).2) else (0, 0)

/-- Thicknesses, a valley, and pixels that hold its virtual heights. -/
structure Held (l : List PT) (after width : Int) (B : Int) (ts : List Int) (w s : Int) : Prop where
  tr : Tr l after width
  len : ts.length = l.length
  t0 : ∀ j, j < l.length → 0 ≤ ts.getD j 0
  w0 : 0 ≤ w
  w1 : w ≤ width
  s0 : 0 ≤ s
  s1 : s < pf l after.toNat * pf l after.toNat
  lo : ∀ k, k < l.length → 1000 * plo l k ≤ 1000 * B + (tsum l k ts k).1 + (vsum l k after w s).1
  hi : ∀ k, k < l.length → 1000 * B + (tsum l k ts k).2 + (vsum l k after w s).2 ≤ 1000 * phi l k

/-- Thicknesses that lie between. -/
def In (ts : List Int) (L : List G) : Prop := ∀ j, j < L.length → (L.getD j G0).1 ≤ ts.getD j 0 ∧ ts.getD j 0 ≤ (L.getD j G0).2

theorem lefts_in {l : List PT} {after width B : Int} {ts : List Int} {w s : Int} (h : Held l after width B ts w s) {L : List G} (hI : In ts L) (hT : Thick L) (A : G) {k : Nat} (hk : k < l.length) {j : Nat} (hj : j ≤ L.length) (hjk : j ≤ k) :
    (lefts l k L A j).1 ≤ A.1 - (tsum l k ts j).1 ∧ A.2 - (tsum l k ts j).2 ≤ (lefts l k L A j).2 := by
  induction j with
  | zero => simp [lefts, tsum]
  | succ j ih =>
    have := ih (by omega) (by omega)
    obtain ⟨i1, i2, i3, i4⟩ := h.tr.pI (show j < k by omega) hk
    obtain ⟨a1, a2⟩ := hI j (by omega)
    have t0 := h.t0 j (by omega)
    obtain ⟨b1, _, _, _⟩ := hT.at j
    have m1 := mul_mono t0 a2 (show 0 ≤ (pI l j k).1 by omega) i2
    have m2 := mul_mono b1 a1 (show 0 ≤ (pI l j k).1 by omega) i2
    simp only [lefts, tsum]
    omega
theorem vsum_in {l : List PT} {after width B : Int} {ts : List Int} {w s : Int} (h : Held l after width B ts w s) {k : Nat} (hk : k < l.length) :
    0 ≤ (vsum l k after w s).1 ∧ (vsum l k after w s).1 ≤ (vsum l k after w s).2 ∧ (vsum l k after w s).2 ≤ (if after < (k : Int) then width * (pI l after.toNat k).2 else 0) := by
  unfold vsum
  split
  · rename_i ha
    have a0 := h.tr.a0
    have hsq := h.tr.sq (j := after.toNat) (k := k) (by omega) hk
    have p1 := (h.tr.pt k hk).1
    have s1 := h.s1
    have hb := idx_bd (sq := s) p1 h.s0 (by omega)
    have hm := idx_mono (sq := s) (sq' := pf l after.toNat * pf l after.toNat) p1 (by omega) hsq
    have w0 := h.w0
    have m1 := mul_mono w0 (Int.le_refl w) (show 0 ≤ (idx s (pf l k)).1 by omega) hb.2.1
    have m2 := mul_mono w0 h.w1 (show 0 ≤ (idx s (pf l k)).2 by omega) hm.2
    have m0 := Int.mul_nonneg w0 (show 0 ≤ (idx s (pf l k)).1 by omega)
    exact ⟨m0, m1, m2⟩
  · omega

theorem left_in {l : List PT} {after width B : Int} {ts : List Int} {w s : Int} (h : Held l after width B ts w s) {L : List G} (hI : In ts L) (hT : Thick L) (hk : L.length + 1 < l.length) :
    (leftL l after width L).1 ≤ ts.getD L.length 0 * (pI l L.length (L.length + 1)).1 ∧ ts.getD L.length 0 * (pI l L.length (L.length + 1)).2 ≤ (leftL l after width L).2 := by
  obtain ⟨e1, e2⟩ := lefts_in h hI hT (1000 * (plo l (L.length + 1) - phi l 0), 1000 * (phi l (L.length + 1) - plo l 0)) hk (Nat.le_refl _) (Nat.le_succ _)
  have v := vsum_in h hk
  have l0 := h.lo 0 (by omega)
  have h0 := h.hi 0 (by omega)
  have l1 := h.lo (L.length + 1) hk
  have h1 := h.hi (L.length + 1) hk
  have v0 : vsum l 0 after w s = (0, 0) := by unfold vsum; rw [if_neg (by have := h.tr.a0; omega)]
  rw [v0] at l0 h0
  simp only [tsum] at l0 h0 l1 h1
  unfold leftL
  dsimp only at e1 e2 ⊢
  have ei : (if after ≤ (L.length : Int) then width * (pI l after.toNat (L.length + 1)).2 else 0) = (if after < ((L.length + 1 : Nat) : Int) then width * (pI l after.toNat (L.length + 1)).2 else 0) := by
    by_cases ha : after ≤ (L.length : Int)
    · rw [if_pos ha, if_pos (by omega)]
    · rw [if_neg ha, if_neg (by omega)]
  rw [ei]
  omega
theorem slab_in {l : List PT} {after width B : Int} {ts : List Int} {w s : Int} (h : Held l after width B ts w s) {L : List G} (hI : In ts L) (hT : Thick L) (hk : L.length + 1 < l.length) :
    0 ≤ (leftL l after width L).2 ∧ (slabOf l after width L).1 ≤ ts.getD L.length 0 ∧ ts.getD L.length 0 ≤ (slabOf l after width L).2 := by
  obtain ⟨e1, e2⟩ := left_in h hI hT hk
  obtain ⟨i1, i2, i3, i4⟩ := h.tr.pI (j := L.length) (k := L.length + 1) (by omega) hk
  have t0 := h.t0 L.length (by omega)
  have m0 := Int.mul_nonneg t0 (show 0 ≤ (pI l L.length (L.length + 1)).1 by omega)
  have m1 := mul_mono t0 (Int.le_refl (ts.getD L.length 0)) (show 0 ≤ (pI l L.length (L.length + 1)).1 by omega) i2
  refine ⟨by omega, ?_, ?_⟩
  · unfold slabOf
    dsimp only
    have : max 0 (leftL l after width L).1 ≤ ts.getD L.length 0 * (pI l L.length (L.length + 1)).2 := by rw [Int.max_le]; omega
    exact Int.ediv_le_of_le_mul (by omega) this
  · unfold slabOf
    dsimp only
    have := (lt_up (n := (leftL l after width L).2) (m := ts.getD L.length 0 - 1) (show 0 < (pI l L.length (L.length + 1)).1 by omega)).2 (by rw [Int.sub_mul]; omega)
    omega
theorem lam_in {l : List PT} {after width B : Int} {ts : List Int} {w s : Int} (h : Held l after width B ts w s) {k : Nat} (hk : k < l.length) : (lam l after width k).2 = 0 ∧ In ts (lam l after width k).1 := by
  induction k with
  | zero => exact ⟨rfl, by simp [lam, In]⟩
  | succ k ih =>
    obtain ⟨h0, hI⟩ := ih (by omega)
    have hn := lam_length h0
    have hT := lam_thick h.tr (k := k) (by omega)
    obtain ⟨e1, e2, e3⟩ := slab_in h hI hT (by omega)
    rw [lam, if_pos h0, if_neg (by omega)]
    refine ⟨rfl, fun j hj => ?_⟩
    rw [List.length_append, List.length_singleton] at hj
    rcases Nat.lt_or_ge j (lam l after width k).1.length with hlt | hge
    · have := hI j hlt
      rw [List.getD, List.getElem?_append_left hlt]
      exact this
    · have : j = (lam l after width k).1.length := by omega
      subst this
      rw [List.getD, List.getElem?_append_right (Nat.le_refl _)]
      simp only [Nat.sub_self, List.getElem?_cons_zero, Option.getD_some]
      exact ⟨e2, e3⟩

/-- The true height of the point k. -/
def thick (ts : List Int) : Nat → Int
  | 0 => 0
  | k + 1 => thick ts k + ts.getD k 0
theorem sums_in {ts : List Int} {L : List G} (hI : In ts L) {k : Nat} (hk : k ≤ L.length) : (sums L k).1 ≤ thick ts k ∧ thick ts k ≤ (sums L k).2 := by
  induction k with
  | zero => simp [sums, thick]
  | succ k ih =>
    have := ih (by omega)
    have := hI k (by omega)
    simp only [sums, thick]
    omega
theorem hts_in {l : List PT} {after width B : Int} {ts : List Int} {w s : Int} (h : Held l after width B ts w s) {k : Nat} (hk : k < l.length) :
    (htL l after width (lam l after width (l.length - 1)).1 k).1 ≤ B + thick ts k + (if after < (k : Int) then w else 0) ∧ B + thick ts k + (if after < (k : Int) then w else 0) ≤ (htL l after width (lam l after width (l.length - 1)).1 k).2 := by
  obtain ⟨h0, hI⟩ := lam_in h (k := l.length - 1) (by omega)
  have hn := lam_length h0
  have := sums_in hI (k := k) (by omega)
  have l0 := h.lo 0 (by omega)
  have hh0 := h.hi 0 (by omega)
  have v0 : vsum l 0 after w s = (0, 0) := by unfold vsum; rw [if_neg (by have := h.tr.a0; omega)]
  rw [v0] at l0 hh0
  simp only [tsum] at l0 hh0
  have w0 := h.w0
  have w1 := h.w1
  unfold htL
  dsimp only
  split <;> omega

/-- Wider pixels, and a wider valley, narrow nothing. -/
structure Wider (l m : List PT) (after width width' : Int) : Prop where
  tr : Tr l after width
  tr' : Tr m after width'
  len : m.length = l.length
  ww : width ≤ width'
  f : ∀ k, pf m k = pf l k
  lo : ∀ k, k < l.length → plo m k ≤ plo l k
  hi : ∀ k, k < l.length → phi l k ≤ phi m k
def Around (L M : List G) : Prop := ∀ j, j < L.length → (M.getD j G0).1 ≤ (L.getD j G0).1 ∧ (L.getD j G0).2 ≤ (M.getD j G0).2
theorem Wider.pI {l m : List PT} {after width width' : Int} (h : Wider l m after width width') (j k : Nat) : pI m j k = Go.Proofs.Ytdeehodekilaiaa.pI l j k := by unfold Go.Proofs.Ytdeehodekilaiaa.pI; rw [h.f, h.f]
theorem lefts_wider {l m : List PT} {after width width' : Int} (h : Wider l m after width width') {L M : List G} (hA : Around L M) (hT : Thick L) (hM : Thick M) {A C : G} (hC : C.1 ≤ A.1 ∧ A.2 ≤ C.2) {k : Nat} (hk : k < l.length) {j : Nat} (hj : j ≤ L.length) (hjk : j ≤ k) :
    (lefts m k M C j).1 ≤ (lefts l k L A j).1 ∧ (lefts l k L A j).2 ≤ (lefts m k M C j).2 := by
  induction j with
  | zero => simpa [lefts] using hC
  | succ j ih =>
    have := ih (by omega) (by omega)
    obtain ⟨i1, i2, i3, i4⟩ := h.tr.pI (show j < k by omega) hk
    obtain ⟨a1, a2⟩ := hA j (by omega)
    obtain ⟨b1, _, b3, _⟩ := hT.at j
    obtain ⟨c1, _, c3, _⟩ := hM.at j
    have m1 := mul_mono b3 a2 (show 0 ≤ (Go.Proofs.Ytdeehodekilaiaa.pI l j k).2 by omega) (Int.le_refl _)
    have m2 := mul_mono c1 a1 (show 0 ≤ (Go.Proofs.Ytdeehodekilaiaa.pI l j k).1 by omega) (Int.le_refl _)
    simp only [lefts, h.pI]
    omega
theorem left_wider {l m : List PT} {after width width' : Int} (h : Wider l m after width width') {L M : List G} (hn : M.length = L.length) (hA : Around L M) (hT : Thick L) (hM : Thick M) (hk : L.length + 1 < l.length) :
    (leftL m after width' M).1 ≤ (leftL l after width L).1 ∧ (leftL l after width L).2 ≤ (leftL m after width' M).2 := by
  unfold leftL
  rw [hn]
  have l0 := h.lo 0 (by omega)
  have h0 := h.hi 0 (by omega)
  have l1 := h.lo (L.length + 1) hk
  have h1 := h.hi (L.length + 1) hk
  have := lefts_wider h hA hT hM (A := (1000 * (plo l (L.length + 1) - phi l 0), 1000 * (phi l (L.length + 1) - plo l 0))) (C := (1000 * (plo m (L.length + 1) - phi m 0), 1000 * (phi m (L.length + 1) - plo m 0))) (by dsimp only; omega) hk (Nat.le_refl _) (Nat.le_succ _)
  dsimp only
  have a0 := h.tr.a0
  split
  · obtain ⟨i1, i2, i3, i4⟩ := h.tr.pI (j := after.toNat) (k := L.length + 1) (by omega) hk
    have := mul_mono h.tr.w0 h.ww (show 0 ≤ (Go.Proofs.Ytdeehodekilaiaa.pI l after.toNat (L.length + 1)).2 by omega) (Int.le_refl _)
    rw [h.pI]
    omega
  · omega
theorem lam_wider {l m : List PT} {after width width' : Int} (h : Wider l m after width width') {k : Nat} (hk : k < l.length) (h0 : (lam l after width k).2 = 0) :
    (lam m after width' k).2 = 0 ∧ Around (lam l after width k).1 (lam m after width' k).1 := by
  induction k with
  | zero => exact ⟨rfl, by simp [lam, Around]⟩
  | succ k ih =>
    have hp := lam_prev h0 (Nat.le_succ k)
    obtain ⟨q0, hA⟩ := ih (by omega) hp
    have n1 := lam_length hp
    have n2 := lam_length q0
    have hT := lam_thick h.tr (k := k) (by omega)
    have hM := lam_thick h.tr' (k := k) (by have := h.len; omega)
    have e := left_wider h (by omega) hA hT hM (by omega)
    rw [lam, if_pos hp] at h0
    have hl : ¬ (leftL l after width (lam l after width k).1).2 < 0 := fun hx => by rw [if_pos hx] at h0; simp at h0
    have e1 : lam l after width (k + 1) = ((lam l after width k).1 ++ [slabOf l after width (lam l after width k).1], 0) := by rw [lam, if_pos hp, if_neg hl]
    have e2 : lam m after width' (k + 1) = ((lam m after width' k).1 ++ [slabOf m after width' (lam m after width' k).1], 0) := by rw [lam, if_pos q0, if_neg (by omega)]
    rw [e1, e2]
    refine ⟨rfl, fun j hj => ?_⟩
    rw [List.length_append, List.length_singleton] at hj
    rcases Nat.lt_or_ge j (lam l after width k).1.length with hlt | hge
    · have := hA j hlt
      rw [List.getD, List.getD, List.getElem?_append_left hlt, List.getElem?_append_left (by omega)]
      exact this
    · have : j = (lam l after width k).1.length := by omega
      subst this
      rw [List.getD, List.getD, List.getElem?_append_right (Nat.le_refl _), List.getElem?_append_right (by omega), n1, n2]
      simp only [Nat.sub_self, List.getElem?_cons_zero, Option.getD_some]
      unfold slabOf
      rw [n1, n2, h.pI]
      obtain ⟨i1, i2, i3, i4⟩ := h.tr.pI (j := k) (k := k + 1) (by omega) hk
      dsimp only
      exact ⟨Int.ediv_le_ediv (by omega) (by rw [Int.max_le]; have := Int.le_max_right 0 (leftL l after width (lam l after width k).1).1; omega), up_mono (by omega) e.2⟩
end Go.Proofs.Ytdeehodekilaiaa

/- Roots bit by bit, fractions compared. Plain numbers; no condition. -/
namespace Go.Proofs.Ytdeehodekilaiaa

/-- The bit that is tried when k are left. -/
def bitN : Nat → Nat
  | 0 => 0
  | k + 1 => 2 ^ k
theorem bitN_half (k : Nat) : bitN (k + 1) / 2 = bitN k := by
  cases k with
  | zero => rfl
  | succ k => simp only [bitN]; rw [Nat.pow_succ]; omega
theorem bitN_31 : bitN 31 = 1073741824 := rfl
/-- What holds when k bits are left. -/
structure RootAt (n r k : Nat) : Prop where
  low : r * r ≤ n
  high : n < (r + 2 ^ k) * (r + 2 ^ k)
  top : r + 2 ^ k ≤ 2147483648
theorem RootAt.start {n : Nat} (h : n ≤ 1152921504606846976) : RootAt n 0 31 := ⟨by omega, by simp; omega, by simp⟩
theorem RootAt.yes {n r k : Nat} (h : RootAt n r (k + 1)) (hb : (r + 2 ^ k) * (r + 2 ^ k) ≤ n) : RootAt n (r + 2 ^ k) k := by
  have e : r + 2 ^ k + 2 ^ k = r + 2 ^ (k + 1) := by rw [Nat.pow_succ]; omega
  exact ⟨hb, by rw [e]; exact h.high, by rw [e]; exact h.top⟩
theorem RootAt.no {n r k : Nat} (h : RootAt n r (k + 1)) (hb : ¬ (r + 2 ^ k) * (r + 2 ^ k) ≤ n) : RootAt n r k := by
  have e : r + 2 ^ k + 2 ^ k = r + 2 ^ (k + 1) := by rw [Nat.pow_succ]; omega
  exact ⟨h.low, by omega, by have := h.top; have := Nat.two_pow_pos k; omega⟩
theorem RootAt.done {n r : Nat} (h : RootAt n r 0) : rootN n = r := rootN_eq h.low (by have := h.high; simpa using this)
theorem RootAt.bd {n r k : Nat} (h : RootAt n r (k + 1)) : r + bitN (k + 1) ≤ 2147483648 := by
  have := h.top
  rw [Nat.pow_succ] at this
  simp only [bitN]
  omega

/-- Which of two numbers is greater. -/
def cmpI (a b : Int) : Int := if a < b then -1 else if b < a then 1 else 0
theorem cmpI_lt {a b : Int} (h : a < b) : cmpI a b = -1 := by unfold cmpI; rw [if_pos h]
theorem cmpI_gt {a b : Int} (h : b < a) : cmpI a b = 1 := by unfold cmpI; rw [if_neg (by omega), if_pos h]
theorem cmpI_eq {a b : Int} (h : a = b) : cmpI a b = 0 := by unfold cmpI; rw [if_neg (by omega), if_neg (by omega)]
theorem cmpI_sub (a b c : Int) : cmpI (a - c) (b - c) = cmpI a b := by unfold cmpI; simp only [Int.sub_lt_sub_right_iff]
theorem frac_lt {n d m k : Int} (hd : 0 < d) (hk : 0 < k) (h : n / d < m / k) : n * k < m * d := by
  have h1 : n < (n / d + 1) * d := (Int.ediv_lt_iff_lt_mul hd).1 (by omega)
  have h2 : m / k * k ≤ m := (Int.le_ediv_iff_mul_le hk).1 (Int.le_refl _)
  have h3 : n * k < (n / d + 1) * d * k := Int.mul_lt_mul_of_pos_right h1 hk
  have h4 : m / k * k * d ≤ m * d := Int.mul_le_mul_of_nonneg_right h2 (by omega)
  have h5 : (n / d + 1) * (d * k) ≤ m / k * (d * k) := Int.mul_le_mul_of_nonneg_right (by omega) (Int.mul_nonneg (by omega) (by omega))
  have e1 : (n / d + 1) * d * k = (n / d + 1) * (d * k) := Int.mul_assoc _ _ _
  have e2 : m / k * k * d = m / k * (d * k) := by rw [Int.mul_assoc, Int.mul_comm k d]
  omega
theorem rest_eq (n d : Int) : n - n / d * d = n % d := by
  have := Int.mul_ediv_add_emod n d
  rw [Int.mul_comm d] at this
  omega
/-- A step of the comparison of two fractions with the same whole part. -/
theorem cmp_rest {n d m k : Int} (h : n / d = m / k) : cmpI (n * k) (m * d) = cmpI (n % d * k) (m % k * d) := by
  have e1 : n % d * k = n * k - n / d * (d * k) := by rw [← rest_eq, Int.sub_mul, Int.mul_assoc]
  have e2 : m % k * d = m * d - n / d * (d * k) := by rw [← rest_eq, Int.sub_mul, Int.mul_assoc, h, Int.mul_comm k d]
  rw [e1, e2, cmpI_sub]
theorem cmp_swap (n d m k : Int) : cmpI (k * n) (d * m) = cmpI (n * k) (m * d) := by rw [Int.mul_comm k, Int.mul_comm d]
theorem up_neg {n d : Int} (hd : 0 < d) : -((-n) / d) = up n d := by
  have h1 : ∀ m, up n d ≤ m ↔ -((-n) / d) ≤ m := fun m => by
    rw [up_le hd]
    have := Int.le_ediv_iff_mul_le (a := -m) (b := -n) hd
    rw [Int.neg_mul] at this
    omega
  have h2 := (h1 (up n d)).1 (Int.le_refl _)
  have h3 := (h1 (-((-n) / d))).2 (Int.le_refl _)
  omega
theorem tdiv_floor {n d : Int} (hd : 0 < d) : n / d = if n.tmod d < 0 then n.tdiv d - 1 else n.tdiv d := by
  have h1 := Int.mul_tdiv_add_tmod n d
  have h2 := Int.tmod_lt_of_pos n hd
  have h3 : -d < n.tmod d := by
    rcases Int.le_total 0 n with h | h
    · have := Int.tmod_nonneg d h; omega
    · have := Int.tmod_lt_of_pos (-n) hd
      rw [Int.neg_tmod] at this
      omega
  rw [Int.mul_comm] at h1
  split
  · refine (Int.ediv_eq_iff_of_pos hd).2 ?_
    rw [Int.sub_mul]
    constructor <;> omega
  · refine (Int.ediv_eq_iff_of_pos hd).2 ?_
    constructor <;> omega
end Go.Proofs.Ytdeehodekilaiaa

