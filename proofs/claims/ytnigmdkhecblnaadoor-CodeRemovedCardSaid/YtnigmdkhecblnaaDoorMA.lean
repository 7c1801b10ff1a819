/- A group of texts (tools/groups.txt): Flo Base Spec. No condition but those that each says. -/
import Derived.Laws.ComplexArith
import Derived.Laws.Cover3
import Derived.WalkKit
import Derived.WalkSpells
import Derived.WalkLawsBesides
import Derived.Deep.Draws
import Derived.Deep.OwnRows
import Derived.Deep.QuietTactic
import Derived.BigQuiet
import Derived.Deep.RegionHeld3
import Derived.Deep.RegionWith
import Derived.StillTailTactics
set_option linter.unusedSimpArgs false
set_option linter.unusedVariables false
namespace Go.Proofs.YtnigmdkhecblnaaDoor
open Ieee

/-- The datum is the whole number n (a zero of either sign is 0), its place at least -D. -/
def DVal (D : Nat) (d : Datum) (n : Int) : Prop := ∃ s m e, d = .number s m e ∧ -(D : Int) ≤ e ∧ signed s m (e + D).toNat = n * 2 ^ D

/-- The least place of a word of 64 bits, in size. -/
def PL : Nat := 1074
theorem PL_eq : PL = 1074 := rfl

/-- The word of 64 bits is the whole number n. -/
def FI (b : Nat) (n : Int) : Prop := DVal PL (double.read b) n

theorem pow_cast (u : Nat) : ((2 ^ u : Nat) : Int) = (2 : Int) ^ u := by simp

theorem signed_eq (s : Bool) (m u : Nat) : signed s m u = if s then -((m : Int) * 2 ^ u) else (m : Int) * 2 ^ u := by
  unfold signed
  simp [Nat.shiftLeft_eq]

theorem signed_shift (s : Bool) (m u v : Nat) : signed s m (u + v) = signed s m u * 2 ^ v := by
  simp only [signed_eq, Int.pow_add]
  cases s <;> simp [Int.mul_assoc, Int.neg_mul]

theorem signed_abs (t : Int) (u : Nat) (z : Bool) : signed (if t = 0 then z else decide (t < 0)) t.natAbs u = t * 2 ^ u := by
  rw [signed_eq]
  by_cases h : t = 0
  · subst h; simp
  · by_cases h' : t < 0
    · have : (t.natAbs : Int) = -t := by omega
      simp [h, h', this, Int.neg_mul]
    · have : (t.natAbs : Int) = t := by omega
      simp [h, h', this]

theorem signed_mul (s t : Bool) (m n u v : Nat) : signed (s ^^ t) (m * n) (u + v) = signed s m u * signed t n v := by
  simp only [signed_eq, Int.pow_add, Int.natCast_mul]
  have h : ((m : Int) * n * (2 ^ u * 2 ^ v)) = (m * 2 ^ u) * (n * 2 ^ v) := by
    simp only [Int.mul_assoc, Int.mul_left_comm]
  cases s <;> cases t <;> simp [h, Int.neg_mul, Int.mul_neg]

theorem DVal.sum {D : Nat} {d d' : Datum} {n n' : Int} (h : DVal D d n) (h' : DVal D d' n') : ∃ r, Datum.sum d d' = some r ∧ DVal D r (n + n') := by
  obtain ⟨s, m, i, rfl, hi, hv⟩ := h
  obtain ⟨t, k, j, rfl, hj, hv'⟩ := h'
  refine ⟨_, rfl, _, _, _, rfl, by omega, ?_⟩
  rw [signed_abs]
  have e1 : (i + D).toNat = (i - min i j).toNat + (min i j + D).toNat := by omega
  have e2 : (j + D).toNat = (j - min i j).toNat + (min i j + D).toNat := by omega
  rw [e1, signed_shift] at hv
  rw [e2, signed_shift] at hv'
  rw [Int.add_mul, hv, hv', ← Int.add_mul]

theorem DVal.opposite {D : Nat} {d : Datum} {n : Int} (h : DVal D d n) : DVal D d.opposite (-n) := by
  obtain ⟨s, m, i, rfl, hi, hv⟩ := h
  refine ⟨!s, m, i, rfl, hi, ?_⟩
  rw [Int.neg_mul, ← hv]
  simp only [signed_eq]
  cases s <;> simp

theorem DVal.product {D D' : Nat} {d d' : Datum} {n n' : Int} (h : DVal D d n) (h' : DVal D' d' n') : ∃ r, Datum.product d d' = some r ∧ DVal (D + D') r (n * n') := by
  obtain ⟨s, m, i, rfl, hi, hv⟩ := h
  obtain ⟨t, k, j, rfl, hj, hv'⟩ := h'
  refine ⟨_, rfl, _, _, _, rfl, by omega, ?_⟩
  have e : (i + j + ((D + D' : Nat) : Int)).toNat = (i + D).toNat + (j + D').toNat := by omega
  rw [e, signed_mul, hv, hv', Int.pow_add]
  simp only [Int.mul_assoc, Int.mul_left_comm]

/-! ### rounding a whole number that fits changes nothing -/

theorem cut_exact (way : Toward) (neg : Bool) (q drop : Nat) (hq : 0 < q) : way.cut neg (q * 2 ^ drop) drop = q := by
  have hp : 0 < 2 ^ drop := Nat.two_pow_pos _
  have hlog : drop ≤ (q * 2 ^ drop).log2 + 2 := by
    have h1 : 2 ^ drop ≤ q * 2 ^ drop := Nat.le_mul_of_pos_left _ hq
    have h2 : drop ≤ (q * 2 ^ drop).log2 := (Nat.le_log2 (by omega)).2 h1
    omega
  unfold Toward.cut
  dsimp only
  rw [Nat.min_eq_left hlog, Nat.shiftLeft_eq, Nat.one_mul, Nat.mul_div_cancel _ hp, Nat.mul_mod_left]
  have hz : (2 ^ drop == 0) = false := by simp
  cases way <;> simp

theorem log2_mul_pow (q k : Nat) (hq : q ≠ 0) : (q * 2 ^ k).log2 = q.log2 + k := by
  rw [Nat.log2_eq_iff (by have := Nat.two_pow_pos k; exact Nat.mul_ne_zero hq (by omega))]
  have h1 := Nat.log2_self_le hq
  have h2 := Nat.lt_log2_self (n := q)
  constructor
  · rw [Nat.pow_add]; exact Nat.mul_le_mul_right _ h1
  · rw [show q.log2 + k + 1 = (q.log2 + 1) + k from by omega, Nat.pow_add]
    exact Nat.mul_lt_mul_of_pos_right h2 (Nat.two_pow_pos _)

theorem nearest_val (neg : Bool) (m : Nat) (e : Int) (D K : Nat) (he : -(D : Int) ≤ e) (hv : m * 2 ^ (e + D).toNat = K * 2 ^ D) (hK : 0 < K) (hK2 : K < 2 ^ 53) :
    double.nearest neg m e = double.word neg ((K.log2 + 1022) * 2 ^ 52 + K * 2 ^ (52 - K.log2)) := by
  have hm : m ≠ 0 := by
    rintro rfl
    have : 0 < K * 2 ^ D := Nat.mul_pos hK (Nat.two_pow_pos _)
    omega
  have hL : K.log2 ≤ 52 := by
    have := (Nat.log2_lt (by omega : K ≠ 0)).2 hK2
    omega
  have hlog : (m.log2 : Int) + e = K.log2 := by
    have h := congrArg Nat.log2 hv
    rw [log2_mul_pow _ _ hm, log2_mul_pow _ _ (by omega)] at h
    omega
  have hlast : max (e + (m.log2 : Int) - (52 : Nat)) double.leastPlace = (K.log2 : Int) - 52 := by
    have hl : double.leastPlace = -1074 := by decide
    rw [hl]; omega
  unfold Format.nearest
  rw [if_neg hm]
  have hf : double.fractionBits = 52 := rfl
  have hl : double.leastPlace = -1074 := by decide
  have hb : double.binade = 2 ^ 52 := rfl
  simp only [hf, hlast, hb]
  have hcut : Toward.even.cut neg (m <<< (e - ((K.log2 : Int) - 52)).toNat) ((K.log2 : Int) - 52 - e).toNat = K * 2 ^ (52 - K.log2) := by
    by_cases hc : (K.log2 : Int) - 52 ≤ e
    · have z : ((K.log2 : Int) - 52 - e).toNat = 0 := by omega
      rw [z, Nat.shiftLeft_eq]
      have hq : m * 2 ^ (e - ((K.log2 : Int) - 52)).toNat = K * 2 ^ (52 - K.log2) := by
        -- both sides times 2 ^ (D + log2 K - 52)
        have hp : 0 < 2 ^ D := Nat.two_pow_pos _
        by_cases hD : 52 ≤ D + K.log2
        · have e1 : (e + D).toNat = (e - ((K.log2 : Int) - 52)).toNat + (D + K.log2 - 52) := by omega
          have e2 : D = (52 - K.log2) + (D + K.log2 - 52) := by omega
          rw [e1, Nat.pow_add, ← Nat.mul_assoc] at hv
          rw [show (2:Nat) ^ D = 2 ^ (52 - K.log2) * 2 ^ (D + K.log2 - 52) from by rw [← Nat.pow_add, ← e2], ← Nat.mul_assoc] at hv
          exact Nat.eq_of_mul_eq_mul_right (Nat.two_pow_pos _) hv
        · have e1 : (e - ((K.log2 : Int) - 52)).toNat = (e + D).toNat + (52 - K.log2 - D) := by omega
          rw [e1, Nat.pow_add, ← Nat.mul_assoc, hv, Nat.mul_assoc, ← Nat.pow_add]
          congr 2
          omega
      rw [hq]
      have := cut_exact .even neg (K * 2 ^ (52 - K.log2)) 0 (Nat.mul_pos hK (Nat.two_pow_pos _))
      simpa using this
    · have z : (e - ((K.log2 : Int) - 52)).toNat = 0 := by omega
      rw [z, Nat.shiftLeft_zero]
      have hq : m = K * 2 ^ (52 - K.log2) * 2 ^ ((K.log2 : Int) - 52 - e).toNat := by
        rw [Nat.mul_assoc, ← Nat.pow_add]
        have e1 : 52 - K.log2 + ((K.log2 : Int) - 52 - e).toNat = (-e).toNat := by omega
        rw [e1]
        have e2 : D = (-e).toNat + (e + D).toNat := by omega
        rw [show (2:Nat) ^ D = 2 ^ (-e).toNat * 2 ^ (e + D).toNat from by rw [← Nat.pow_add, ← e2], ← Nat.mul_assoc] at hv
        exact Nat.eq_of_mul_eq_mul_right (Nat.two_pow_pos _) hv
      rw [hq]
      exact cut_exact .even neg _ _ (Nat.mul_pos hK (Nat.two_pow_pos _))
  rw [hcut, hl]
  have e3 : ((K.log2 : Int) - 52 - -1074).toNat = K.log2 + 1022 := by omega
  rw [e3]
  have h5 : K * 2 ^ (52 - K.log2) < 2 ^ 53 := by
    have h2 := Nat.lt_log2_self (n := K)
    calc K * 2 ^ (52 - K.log2) < 2 ^ (K.log2 + 1) * 2 ^ (52 - K.log2) := Nat.mul_lt_mul_of_pos_right h2 (Nat.two_pow_pos _)
      _ = 2 ^ 53 := by rw [← Nat.pow_add]; congr 1; omega
  have h6 : (K.log2 + 1022) * 2 ^ 52 ≤ 1074 * 2 ^ 52 := Nat.mul_le_mul_right _ (by omega)
  have h7 : double.infRung = 2047 * 2 ^ 52 := by decide
  have key : ∀ A B : Nat, A ≤ 1074 * 2 ^ 52 → B < 2 ^ 53 → A + B ≤ 2047 * 2 ^ 52 := fun A B h1 h2 => by omega
  rw [Nat.min_eq_left (by rw [h7]; exact key _ _ h6 h5)]

theorem read_word (neg : Bool) (K : Nat) (hK : 0 < K) (hK2 : K < 2 ^ 53) :
    double.read (double.word neg ((K.log2 + 1022) * 2 ^ 52 + K * 2 ^ (52 - K.log2))) = .number neg (K * 2 ^ (52 - K.log2)) ((K.log2 : Int) - 52) := by
  have hL : K.log2 ≤ 52 := by
    have := (Nat.log2_lt (by omega : K ≠ 0)).2 hK2
    omega
  have lo : 2 ^ 52 ≤ K * 2 ^ (52 - K.log2) := by
    have h1 := Nat.log2_self_le (by omega : K ≠ 0)
    calc 2 ^ 52 = 2 ^ K.log2 * 2 ^ (52 - K.log2) := by rw [← Nat.pow_add]; congr 1; omega
      _ ≤ K * 2 ^ (52 - K.log2) := Nat.mul_le_mul_right _ h1
  have hi : K * 2 ^ (52 - K.log2) < 2 ^ 53 := by
    have h2 := Nat.lt_log2_self (n := K)
    calc K * 2 ^ (52 - K.log2) < 2 ^ (K.log2 + 1) * 2 ^ (52 - K.log2) := Nat.mul_lt_mul_of_pos_right h2 (Nat.two_pow_pos _)
      _ = 2 ^ 53 := by rw [← Nat.pow_add]; congr 1; omega
  generalize hk : K * 2 ^ (52 - K.log2) = kept at lo hi ⊢
  generalize K.log2 = L at hL ⊢
  have hs : double.signWeight = 2 ^ 63 := by decide
  have hb : double.binade = 2 ^ 52 := rfl
  have hl : double.leastPlace = -1074 := by decide
  have h7 : double.infRung = 2047 * 2 ^ 52 := by decide
  have hr : (L + 1022) * 2 ^ 52 + kept < 2 ^ 63 := by omega
  have c1 : (double.word neg ((L + 1022) * 2 ^ 52 + kept) / 2 ^ 63 % 2 == 1) = neg := by
    unfold Format.word
    rw [hs]
    cases neg
    · simp only [Bool.false_eq_true, if_false]
      rw [Nat.div_eq_of_lt hr]; rfl
    · simp only [if_true]
      rw [Nat.add_div_left _ (by decide), Nat.div_eq_of_lt hr]; rfl
  have c2 : double.word neg ((L + 1022) * 2 ^ 52 + kept) % 2 ^ 63 = (L + 1022) * 2 ^ 52 + kept := by
    unfold Format.word
    rw [hs]
    cases neg
    · simp only [Bool.false_eq_true, if_false]
      exact Nat.mod_eq_of_lt hr
    · simp only [if_true]
      rw [Nat.add_mod_left]; exact Nat.mod_eq_of_lt hr
  unfold Format.read
  simp only [hs, c1, c2, hb, hl, h7]
  rw [if_neg (by omega), if_pos (by omega)]
  have d1 : ((L + 1022) * 2 ^ 52 + kept) % 2 ^ 52 = kept - 2 ^ 52 := by omega
  have d2 : ((L + 1022) * 2 ^ 52 + kept) / 2 ^ 52 = L + 1023 := by omega
  rw [d1, d2, show 2 ^ 52 + (kept - 2 ^ 52) = kept from by omega, show (-1074 : Int) + ((L + 1023 - 1 : Nat) : Int) = (L : Int) - 52 from by omega]

theorem abs_of_val {D : Nat} {s : Bool} {m : Nat} {e n : Int} (_he : -(D : Int) ≤ e) (hv : signed s m (e + D).toNat = n * 2 ^ D) : m * 2 ^ (e + D).toNat = n.natAbs * 2 ^ D := by
  have h2 := congrArg Int.natAbs hv
  rw [signed_eq, Int.natAbs_mul, Int.natAbs_pow] at h2
  have h3 : (if s = true then -((m : Int) * 2 ^ (e + D).toNat) else (m : Int) * 2 ^ (e + D).toNat).natAbs = m * 2 ^ (e + D).toNat := by
    cases s <;> simp [Int.natAbs_mul, Int.natAbs_pow]
  rw [h3] at h2
  simpa using h2

theorem sign_of_val {D : Nat} {s : Bool} {m : Nat} {e n : Int} (he : -(D : Int) ≤ e) (hv : signed s m (e + D).toNat = n * 2 ^ D) (h0 : n ≠ 0) : s = decide (n < 0) := by
  have hp : (0 : Int) < 2 ^ D := by have := Nat.two_pow_pos D; exact_mod_cast this
  have habs := abs_of_val he hv
  have hpos : (0 : Int) < (m : Int) * 2 ^ (e + D).toNat := by
    have : 0 < m * 2 ^ (e + D).toNat := by rw [habs]; exact Nat.mul_pos (by omega) (Nat.two_pow_pos _)
    exact_mod_cast this
  rw [signed_eq] at hv
  cases s
  · simp only [Bool.false_eq_true, if_false] at hv
    have : 0 < n := by
      rcases Int.lt_trichotomy n 0 with h | h | h
      · have := Int.mul_neg_of_neg_of_pos h hp; omega
      · omega
      · exact h
    simp; omega
  · simp only [if_true] at hv
    have : n < 0 := by
      rcases Int.lt_trichotomy n 0 with h | h | h
      · exact h
      · omega
      · have := Int.mul_pos h hp; omega
    simp [this]


theorem write_val {D : Nat} {d : Datum} {n : Int} (h : DVal D d n) (hn : n.natAbs < 2 ^ 53) : FI (double.write d) n := by
  obtain ⟨s, m, e, rfl, he, hv⟩ := h
  have habs := abs_of_val he hv
  have hP := PL_eq
  show DVal PL (double.read (double.nearest s m e)) n
  by_cases h0 : n = 0
  · subst h0
    have hm : m = 0 := by
      have := Nat.two_pow_pos (e + D).toNat
      rw [Int.natAbs_zero, Nat.zero_mul] at habs
      rcases Nat.mul_eq_zero.1 habs with h | h <;> omega
    subst hm
    refine ⟨s, 0, -1074, ?_, by omega, ?_⟩
    · have e1 : double.nearest s 0 e = double.nearest s 0 0 := by simp [Format.nearest]
      rw [e1]
      cases s <;> decide
    · rw [signed_eq]
      cases s <;> simp only [Int.natCast_zero, Int.zero_mul, Int.neg_zero, if_true, Bool.false_eq_true, if_false]
  · have hK : 0 < n.natAbs := by omega
    have hsign : s = decide (n < 0) := sign_of_val he hv h0
    rw [nearest_val s m e D n.natAbs he habs hK hn, read_word s n.natAbs hK hn]
    have hL : n.natAbs.log2 ≤ 52 := by
      have := (Nat.log2_lt (by omega : n.natAbs ≠ 0)).2 hn
      omega
    refine ⟨_, _, _, rfl, by omega, ?_⟩
    have e1 : ((n.natAbs.log2 : Int) - 52 + (PL : Nat)).toNat = n.natAbs.log2 + 1022 := by omega
    rw [e1, signed_eq]
    have e2 : ((n.natAbs * 2 ^ (52 - n.natAbs.log2) : Nat) : Int) * 2 ^ (n.natAbs.log2 + 1022) = (n.natAbs : Int) * 2 ^ PL := by
      rw [Int.natCast_mul, Int.mul_assoc, pow_cast, ← Int.pow_add, show 52 - n.natAbs.log2 + (n.natAbs.log2 + 1022) = PL from by omega]
    rw [e2, hsign]
    by_cases hneg : n < 0
    · have : (n.natAbs : Int) = -n := by omega
      simp [hneg, this, Int.neg_mul]
    · have : (n.natAbs : Int) = n := by omega
      simp [hneg, this]

/-! ### the operations -/
theorem FI.lt53 : (9007199254740992 : Nat) = 2 ^ 53 := by decide

theorem FI.ofInt (n : Int) (hn : n.natAbs < 9007199254740992) : FI (floatOfInt .f64 n) n := by
  refine write_val (D := 0) ⟨decide (n < 0), n.natAbs, 0, rfl, by omega, ?_⟩ (by omega)
  rw [signed_eq]
  by_cases h : n < 0
  · have : (n.natAbs : Int) = -n := by omega
    simp [h, this]
  · have : (n.natAbs : Int) = n := by omega
    simp [h, this]

theorem FI.add {a b : Nat} {m n : Int} (ha : FI a m) (hb : FI b n) (h : (m + n).natAbs < 9007199254740992) : ∃ r, floatBits .add .f64 a b = some r ∧ FI r (m + n) := by
  obtain ⟨d, hd, hv⟩ := DVal.sum ha hb
  exact ⟨_, by show ((double.read a).sum (double.read b)).map double.write = _; rw [hd]; rfl, write_val hv (by omega)⟩

theorem FI.sub {a b : Nat} {m n : Int} (ha : FI a m) (hb : FI b n) (h : (m - n).natAbs < 9007199254740992) : ∃ r, floatBits .sub .f64 a b = some r ∧ FI r (m - n) := by
  obtain ⟨d, hd, hv⟩ := DVal.sum ha (DVal.opposite hb)
  rw [← Int.sub_eq_add_neg] at hv
  exact ⟨_, by show ((double.read a).sum (double.read b).opposite).map double.write = _; rw [hd]; rfl, write_val hv (by omega)⟩

theorem FI.mul {a b : Nat} {m n : Int} (ha : FI a m) (hb : FI b n) (h : (m * n).natAbs < 9007199254740992) : ∃ r, floatBits .mul .f64 a b = some r ∧ FI r (m * n) := by
  obtain ⟨d, hd, hv⟩ := DVal.product ha hb
  exact ⟨_, by show ((double.read a).product (double.read b)).map double.write = _; rw [hd]; rfl, write_val hv (by omega)⟩


theorem FI.zero : FI 0 0 := ⟨false, 0, -1074, by decide, by have hP := PL_eq; omega, by simp [signed_eq]⟩

theorem FI.neg {a : Nat} {m : Int} (ha : FI a m) : FI (Op.negFloat .f64 a) (-m) := by
  have hx : double.read (Op.negFloat .f64 a) = (double.read a).opposite := by
    have h2 : Op.negFloat .f64 a = a ^^^ 2 ^ 63 := rfl
    have hs : double.signWeight = 2 ^ 63 := by decide
    have c1 : (a ^^^ 2 ^ 63) % 2 ^ 63 = a % 2 ^ 63 := by
      rw [Nat.xor_mod_two_pow, Nat.mod_self, Nat.xor_zero]
    have c2 : ((a ^^^ 2 ^ 63) / 2 ^ 63 % 2 == 1) = !(a / 2 ^ 63 % 2 == 1) := by
      have hm := Nat.xor_mod_two_pow (a := a / 2 ^ 63) (b := 1) (n := 1)
      rw [Nat.pow_one] at hm
      rw [Nat.xor_div_two_pow, Nat.div_self (by decide), hm]
      rcases Nat.mod_two_eq_zero_or_one (a / 2 ^ 63) with h | h <;> rw [h] <;> rfl
    rw [h2]
    unfold Format.read
    simp only [hs, c1, c2]
    split
    · rfl
    · split
      · rfl
      · split <;> rfl
  show DVal PL _ _
  rw [hx]
  exact DVal.opposite ha


theorem FI.toInt {a : Nat} {m : Int} (ha : FI a m) (h : m.natAbs < 9007199254740992) : floatToIntVal .f64 a .i64 = some m := by
  have hP := PL_eq
  obtain ⟨s, k, e, hr, he, hv⟩ := ha
  have hd : (FloatKind.f64.decode a).toInt .zero = some m := by
    show (double.read a).toInt .zero = some m
    rw [hr]
    show some (signed s (Toward.zero.cut s (k <<< e.toNat) (-e).toNat) 0) = some m
    congr 1
    have habs := abs_of_val he hv
    have hsg := hv
    rw [signed_eq] at hsg
    have hc : Toward.zero.cut s (k <<< e.toNat) (-e).toNat = m.natAbs := by
      by_cases h0 : m = 0
      · subst h0
        have hk : k = 0 := by
          rw [Int.natAbs_zero, Nat.zero_mul] at habs
          rcases Nat.mul_eq_zero.1 habs with h | h
          · exact h
          · have := Nat.two_pow_pos (e + (PL : Nat)).toNat; omega
        subst hk
        simp [Toward.cut]
      · have hK : 0 < m.natAbs := by omega
        by_cases he0 : 0 ≤ e
        · have z : (-e).toNat = 0 := by omega
          have hq : k * 2 ^ e.toNat = m.natAbs := by
            rw [show (e + (PL : Nat)).toNat = e.toNat + PL from by omega, Nat.pow_add, ← Nat.mul_assoc] at habs
            exact Nat.eq_of_mul_eq_mul_right (Nat.two_pow_pos _) habs
          rw [z, Nat.shiftLeft_eq, hq]
          have := cut_exact .zero s m.natAbs 0 hK
          simpa using this
        · have z : e.toNat = 0 := by omega
          have hq : k = m.natAbs * 2 ^ (-e).toNat := by
            rw [show (2 : Nat) ^ PL = 2 ^ (-e).toNat * 2 ^ (e + (PL : Nat)).toNat from by rw [← Nat.pow_add]; congr 1; omega, ← Nat.mul_assoc] at habs
            exact Nat.eq_of_mul_eq_mul_right (Nat.two_pow_pos _) habs
          rw [z, Nat.shiftLeft_zero, hq]
          exact cut_exact .zero s _ _ hK
    rw [hc, signed_eq, Int.pow_zero, Int.mul_one]
    by_cases h0 : m = 0
    · subst h0; cases s <;> rfl
    · rw [sign_of_val he hv h0]
      by_cases hneg : m < 0
      · have : (m.natAbs : Int) = -m := by omega
        simp [hneg, this]
      · have : (m.natAbs : Int) = m := by omega
        simp [hneg, this]
  unfold floatToIntVal
  rw [hd]
  have h1 : IntKind.i64.min = -9223372036854775808 := by decide
  have h2 : IntKind.i64.max = 9223372036854775807 := by decide
  simp only [h1, h2]
  rw [if_pos (by omega)]

end Go.Proofs.YtnigmdkhecblnaaDoor

/- Words for memory that the walks of this seat share: a slice that reads as a list of cells, what new blocks leave as it was. Plain lemmas; no condition. -/
namespace Go.Proofs.YtnigmdkhecblnaaDoor
open Go.RowKit

theorem bcell {W w1 : World} (hb : Below W.heap.size W w1) : (∀ b o, b < W.heap.size → w1.cell? ⟨b, o, none⟩ = W.cell? ⟨b, o, none⟩) ∧ (∀ b o, b < W.heap.size → w1.frozen? ⟨b, o, none⟩ = W.frozen? ⟨b, o, none⟩) :=
  ⟨fun b o h => hb.cell (p := ⟨b, o, none⟩) h, fun b o h => hb.frozen (p := ⟨b, o, none⟩) h⟩

theorem hide {p : Prop} (h : p) : Hid p := h
theorem unhide {p : Prop} (h : Hid p) : p := h

theorem below_drewN {B : Nat} {a w : World} (h : Below B a w) (n : Nat) : Below B a (w.drewN n) := ⟨h.os, h.tape, h.output, h.size, h.block⟩

/-- Two steps, each a call's own. -/
theorem tr {a b c : World} {B : Nat} (h : Below a.heap.size a b) (k : Below B b c) (hB : a.heap.size ≤ B) : Below a.heap.size a c := h.trans (k.mono hB)

/-- A slice's address A, behind which the cells xs lie (nothing is asked of an empty one). -/
def Rd (w : World) (A : Option Addr) (xs : List Value) : Prop :=
  xs ≠ [] → ∃ b off, A = some ⟨b, off, none⟩ ∧ b < w.heap.size ∧ ∀ j u, xs[j]? = some u → w.cell? ⟨b, off + j, none⟩ = some u

theorem Rd.nil (w : World) (A : Option Addr) : Rd w A [] := fun h => (h rfl).elim

theorem Rd.below {B : Nat} {w w' : World} {A : Option Addr} {xs : List Value} (h : Rd w A xs) (hb : Below B w w') (hB : w.heap.size ≤ B) : Rd w' A xs := by
  intro hx
  obtain ⟨b, off, rfl, hlt, hc⟩ := h hx
  exact ⟨b, off, rfl, Nat.lt_of_lt_of_le hlt hb.size, fun j u hu => (hb.cell (p := ⟨b, off + j, none⟩) (Nat.lt_of_lt_of_le hlt hB)).trans (hc j u hu)⟩

theorem Rd.bel {w w' : World} {A : Option Addr} {xs : List Value} (h : Rd w A xs) (hb : Below w.heap.size w w') : Rd w' A xs := h.below hb (Nat.le_refl _)

theorem Rd.alloc {w : World} {A : Option Addr} {xs : List Value} (h : Rd w A xs) (o : Obj) : Rd (w.alloc o) A xs := h.bel ((Below.refl _ _).alloc (Nat.le_refl _) o)
theorem Rd.drew {w : World} {A : Option Addr} {xs : List Value} (h : Rd w A xs) : Rd w.drew A xs := h
theorem Rd.drewN {w : World} {A : Option Addr} {xs : List Value} (h : Rd w A xs) (n : Nat) : Rd (w.drewN n) A xs := h

theorem Rd.of_own {w : World} {base : Nat} {e : TypeId} {size n c : Nat} {A : Option Addr} {xs : List Value} (h : w.ownsRow base e size (.slice A n c) n xs) : Rd w A xs := by
  intro hx
  rcases h.2 with ⟨hv, hn⟩ | ⟨g, cap, cur, hv, hg, hh, hnc, _, hsz, htake⟩
  · exfalso
    have := h.1
    rw [hn, Nat.zero_mul] at this
    exact hx (List.eq_nil_of_length_eq_zero this)
  · have hA : A = some ⟨g, 0, none⟩ := by injection hv
    have hlt : g < w.heap.size := (Array.getElem?_eq_some_iff.1 hh).1
    refine ⟨g, 0, hA, hlt, fun j u hu => ?_⟩
    rw [Nat.zero_add, cell_of_row w g j cur e (0, 0) hh]
    rw [← htake, List.getElem?_take] at hu
    split at hu
    · simpa using hu
    · cases hu

/-- The cells of numbers. -/
def ints (l : List Int) : List Value := l.map (.int .i64)
@[simp] theorem ints_length (l : List Int) : (ints l).length = l.length := by simp [ints]
@[simp] theorem ints_nil : ints [] = [] := rfl
theorem ints_append (l m : List Int) : ints (l ++ m) = ints l ++ ints m := by simp [ints]
theorem ints_at {l : List Int} {k : Nat} (h : k < l.length) : (ints l)[k]? = some (.int .i64 l[k]) := by simp [ints, h]
theorem ints_one (l : List Int) : ∀ u ∈ ints l, u.oneCell' = true := by
  intro u hu
  obtain ⟨_, _, rfl⟩ := List.mem_map.1 hu
  rfl

/-- The cells of whole complex numbers, two each. -/
def gs (l : List (Int × Int)) : List Value := l.flatMap fun g => [.int .i64 g.1, .int .i64 g.2]
@[simp] theorem gs_length (l : List (Int × Int)) : (gs l).length = l.length * 2 := by
  induction l with
  | nil => rfl
  | cons g l ih => simp only [gs, List.flatMap_cons, List.length_append, List.length_cons, List.length_nil] at ih ⊢; omega
@[simp] theorem gs_nil : gs [] = [] := rfl
theorem gs_cons (g : Int × Int) (l : List (Int × Int)) : gs (g :: l) = .int .i64 g.1 :: .int .i64 g.2 :: gs l := rfl
theorem gs_append (l m : List (Int × Int)) : gs (l ++ m) = gs l ++ gs m := by simp [gs]
theorem gs_at {l : List (Int × Int)} {k : Nat} (h : k < l.length) : (gs l)[k * 2]? = some (.int .i64 l[k].1) ∧ (gs l)[k * 2 + 1]? = some (.int .i64 l[k].2) := by
  induction l generalizing k with
  | nil => simp at h
  | cons g l ih =>
    rw [gs_cons]
    cases k with
    | zero => exact ⟨rfl, rfl⟩
    | succ k =>
      have := ih (k := k) (by simpa using h)
      rw [show (k + 1) * 2 = k * 2 + 2 from by omega]
      simpa using this
theorem gs_one (l : List (Int × Int)) : ∀ u ∈ gs l, u.oneCell' = true := by
  intro u hu
  obtain ⟨g, _, hg⟩ := List.mem_flatMap.1 hu
  simp at hg
  rcases hg with rfl | rfl <;> rfl

/-- What a round reads: number k of a slice of numbers. -/
theorem Rd.int_at {w : World} {A : Option Addr} {l : List Int} (h : Rd w A (ints l)) {k : Nat} (hk : k < l.length) : ∃ b off, A = some ⟨b, off, none⟩ ∧ b < w.heap.size ∧ w.cell? ⟨b, off + k, none⟩ = some (.int .i64 l[k]) := by
  obtain ⟨b, off, rfl, hlt, hc⟩ := h (by intro e; have := congrArg List.length e; rw [ints_length, List.length_nil] at this; omega)
  exact ⟨b, off, rfl, hlt, hc k _ (ints_at hk)⟩
theorem Rd.g_at {w : World} {A : Option Addr} {l : List (Int × Int)} (h : Rd w A (gs l)) {k : Nat} (hk : k < l.length) :
    ∃ b off, A = some ⟨b, off, none⟩ ∧ b < w.heap.size ∧ w.cell? ⟨b, off + k * 2, none⟩ = some (.int .i64 l[k].1) ∧ w.cell? ⟨b, off + k * 2 + 1, none⟩ = some (.int .i64 l[k].2) := by
  obtain ⟨b, off, rfl, hlt, hc⟩ := h (by intro e; have := congrArg List.length e; rw [gs_length, List.length_nil] at this; omega)
  obtain ⟨h1, h2⟩ := gs_at hk
  exact ⟨b, off, rfl, hlt, hc _ _ h1, by rw [Nat.add_assoc]; exact hc _ _ h2⟩

/-- A block that is known whole. -/
def Blk (w : World) (g : Nat) (t : TypeId) (cs : List Value) : Prop := w.heap[g]? = some (.cells cs.toArray t (0, 0))
section
variable {w w' : World} {g : Nat} {t : TypeId} {cs : List Value}
theorem Blk.lt (h : Blk w g t cs) : g < w.heap.size := (Array.getElem?_eq_some_iff.1 h).1
theorem Blk.cell (h : Blk w g t cs) (i : Nat) : w.cell? ⟨g, i, none⟩ = cs[i]? := by rw [cell_of_row w g i _ t (0, 0) h]; simp
theorem Blk.frozen (h : Blk w g t cs) (i : Nat) : w.frozen? ⟨g, i, none⟩ = false := by unfold Blk at h; simp [World.frozen?, h]
theorem Blk.new (w : World) (t : TypeId) (cs : List Value) : Blk (w.alloc (.cells cs.toArray t)) w.heap.size t cs := heap_alloc_new w _
theorem Blk.below {B : Nat} (h : Blk w g t cs) (hb : Below B w w') (hg : g < B) : Blk w' g t cs := (hb.block g hg).trans h
theorem Blk.bel (h : Blk w g t cs) (hb : Below w.heap.size w w') : Blk w' g t cs := h.below hb h.lt
theorem Blk.drewN (h : Blk w g t cs) (n : Nat) : Blk (w.drewN n) g t cs := h
theorem Blk.set_ (h : Blk w g t cs) (i : Nat) (u : Value) : Blk (w.setCell ⟨g, i, none⟩ u) g t (cs.set i u) := by
  unfold Blk at h ⊢
  simp [World.setCell, Array.getElem?_modify, h]
theorem Blk.far (h : Blk w g t cs) {p : Addr} (hp : g ≠ p.block) (u : Value) : Blk (w.setCell p u) g t cs := (Below.heap_setCell w p u g hp).trans h
theorem Blk.rd (h : Blk w g t cs) {xs : List Value} (hx : xs <+: cs) : Rd w (some ⟨g, 0, none⟩) xs := fun _ =>
  ⟨g, 0, rfl, h.lt, fun j u hu => by
    rw [Nat.zero_add, h.cell j]
    obtain ⟨ys, rfl⟩ := hx
    rw [List.getElem?_append_left (List.getElem?_eq_some_iff.1 hu).1]
    exact hu⟩
theorem Blk.of_own {base n size : Nat} {xs : List Value} (h : w.ownsRow base t size (.slice (some ⟨g, 0, none⟩) n n) n xs) : Blk w g t xs := by
  rcases h.2 with ⟨hv, _⟩ | ⟨g', cap, cur, hv, _, hh, _, _, hsz, htake⟩
  · cases hv
  · injection hv with e1 _ e3
    have e1' : g = g' := by injection e1 with e1; injection e1
    subst e1' e3
    have hc : cur.toList = xs := by rw [← htake, List.take_of_length_le (by simp [hsz])]
    unfold Blk
    rw [← hc]
    exact hh
end

/-- make([]T, n) lays so many zeros. -/
theorem madeCells_one (v : Value) (h : v.cells = #[v]) (n : Nat) : (madeCells v.cells (n * 1)).toList = List.replicate n v := by
  rw [h]
  simp [madeCells]
  refine List.ext_getElem (by simp) fun i h1 h2 => ?_
  simp [Nat.mod_one]

theorem ofInt_i64 (a : Nat) (ha : a < 9223372036854775808) : (BitVec.ofInt 64 (a : Int)).toNat = a := by
  rw [BitVec.ofInt_natCast, BitVec.toNat_ofNat]; exact Nat.mod_eq_of_lt (by omega)
theorem i64_and (a b : Nat) (ha : a < 9223372036854775808) (hb : b < 9223372036854775808) : bits .and .i64 (a : Int) (b : Int) = ((a &&& b : Nat) : Int) := by
  have hx : a &&& b < 2 ^ 63 := Nat.and_lt_two_pow _ (by omega)
  show IntKind.i64.wrap ((BitVec.ofInt 64 (a : Int) &&& BitVec.ofInt 64 (b : Int)).toNat : Int) = _
  rw [BitVec.toNat_and, ofInt_i64 a ha, ofInt_i64 b hb, IntKind.wrap_i64]
  omega
theorem i64_and_one (a : Nat) (ha : a < 9223372036854775808) : bits .and .i64 (a : Int) 1 = ((a % 2 : Nat) : Int) := by
  have := i64_and a 1 ha (by omega)
  rw [Nat.and_one_is_mod] at this
  exact this
theorem wrap64_id {x : Int} (h1 : -9223372036854775808 ≤ x) (h2 : x ≤ 9223372036854775807) : wrap64 x = x := IntWalk.wrap64_in x ⟨h1, h2⟩

theorem ret_int {k : IntKind} {a b : Int} (h : a = b) : Ending.returned (.int k a) = .returned (.int k b) := by rw [h]
theorem ret_bool {a b : Bool} (h : a = b) : Ending.returned (.bool a) = .returned (.bool b) := by rw [h]
end Go.Proofs.YtnigmdkhecblnaaDoor

/- The specification's words as plain functions, shared by the program's contracts and the references'. No condition. -/
namespace Go.Proofs.YtnigmdkhecblnaaDoor

abbrev G := Int × Int

/-- The first of several errors. -/
def firstE : List Int → Int
  | [] => 0
  | e :: l => if e = 0 then firstE l else e

theorem firstE_append (l : List Int) (e : Int) (h : firstE l = 0) : firstE (l ++ [e]) = e := by
  induction l with
  | nil => simp [firstE]; intro h; exact h.symm
  | cons a l ih =>
    simp only [firstE, List.cons_append] at h ⊢
    split at h
    · rename_i h0; rw [if_pos h0]; exact ih h
    · omega

theorem firstE_take_succ (l : List Int) (k : Nat) (hk : k < l.length) (h : firstE (l.take k) = 0) : firstE (l.take (k + 1)) = l[k] := by
  rw [List.take_succ_eq_append_getElem hk]; exact firstE_append _ _ h

theorem firstE_of_take (l : List Int) (k : Nat) (h : firstE (l.take k) ≠ 0) : firstE l = firstE (l.take k) := by
  induction l generalizing k with
  | nil => simp
  | cons a l ih =>
    cases k with
    | zero => simp [firstE] at h
    | succ k =>
      simp only [List.take_succ_cons, firstE] at h ⊢
      split
      · rename_i h0; rw [if_pos h0] at h; exact ih k h
      · rfl

/-- A number beyond its range, as a test that the walk does not open. -/
def outB (n lo hi : Int) : Bool := decide (n < lo) || decide (hi < n)
theorem outB_true {n lo hi : Int} : outB n lo hi = true ↔ n < lo ∨ hi < n := by simp [outB]
theorem outB_false {n lo hi : Int} : outB n lo hi = false ↔ lo ≤ n ∧ n ≤ hi := by simp [outB]

/-- The index and the error of the first item to which a check objects, counted from k on. -/
def firstBadFrom {α : Type} (chk : Nat → α → Int) : Nat → List α → Int × Int
  | _, [] => (0, 0)
  | k, x :: l => if chk k x = 0 then firstBadFrom chk (k + 1) l else ((k : Int), chk k x)

theorem firstBadFrom_split {α : Type} (chk : Nat → α → Int) (l : List α) (k j : Nat) (hj : j < l.length) (h0 : ∀ i (hi : i < j), chk (k + i) (l[i]'(by omega)) = 0) :
    firstBadFrom chk k l = if chk (k + j) l[j] = 0 then firstBadFrom chk (k + j + 1) (l.drop (j + 1)) else (((k + j : Nat) : Int), chk (k + j) l[j]) := by
  induction j generalizing k l with
  | zero => cases l with
    | nil => simp at hj
    | cons x l => simp [firstBadFrom]
  | succ j ih => cases l with
    | nil => simp at hj
    | cons x l =>
      have hx := h0 0 (by omega)
      simp at hx
      simp only [firstBadFrom, hx, if_true]
      have := ih l (k + 1) (by simpa using hj) (fun i hi => by have := h0 (i + 1) (by omega); simpa [Nat.add_assoc, Nat.add_comm, Nat.add_left_comm] using this)
      rw [this]
      simp [Nat.add_comm, Nat.add_left_comm]

theorem firstBadFrom_none {α : Type} (chk : Nat → α → Int) (l : List α) (k : Nat) (h0 : ∀ i (hi : i < l.length), chk (k + i) l[i] = 0) : firstBadFrom chk k l = (0, 0) := by
  induction l generalizing k with
  | nil => rfl
  | cons x l ih =>
    have hx := h0 0 (by simp)
    simp at hx
    simp only [firstBadFrom, hx, if_true]
    exact ih (k + 1) fun i hi => by have := h0 (i + 1) (by simpa using hi); simpa [Nat.add_assoc, Nat.add_comm, Nat.add_left_comm] using this

theorem firstBadFrom_some {α : Type} (chk : Nat → α → Int) (l : List α) (k j : Nat) (hj : j < l.length) (h0 : ∀ i (hi : i < j), chk (k + i) (l[i]'(by omega)) = 0) (h1 : chk (k + j) l[j] ≠ 0) :
    firstBadFrom chk k l = (((k + j : Nat) : Int), chk (k + j) l[j]) := by
  rw [firstBadFrom_split chk l k j hj h0, if_neg h1]

/-- An error, or none. -/
def errIf (b : Bool) (e : Int) : Int := if b then e else 0
theorem errIf_true (e : Int) : errIf true e = e := rfl
theorem errIf_false (e : Int) : errIf false e = 0 := rfl

/-- The error of a length that must not be 0. -/
def lenE (n most : Int) : Int := firstE [errIf (n == 0) 10, errIf (decide (most < n)) 8]
theorem lenE_eq (n most : Int) : lenE n most = if n = 0 then 10 else if most < n then 8 else 0 := by
  unfold lenE firstE errIf
  by_cases h : n = 0
  · simp [h]
  · by_cases h' : most < n <;> simp [h, h', firstE]

def codeItem (n : Int) : Int := if n = 1 ∨ n = -1 then 0 else 2
/-- The error of a code. -/
def codeE (l : List Int) : Int := if lenE l.length 32 = 0 then (firstBadFrom (fun _ n => codeItem n) 0 l).2 else lenE l.length 32

/-- The error of a chirp. -/
def chirpE (s n d : Int) : Int := if s < 0 ∨ 100000 < s ∨ n < 0 ∨ 1000 < n ∨ d < 1 ∨ 1000 < d then 2 else 0
def freq (s n d t : Int) : Int := s + t * n / d
end Go.Proofs.YtnigmdkhecblnaaDoor

