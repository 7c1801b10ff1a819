/- Sums of correlations of pairs that are built from complementary ones. Plain lemmas; no condition. -/
import Derived.Test.YtnigmdkhecblnaaDoorMF
set_option linter.unusedSimpArgs false
set_option linter.unusedVariables false
namespace Go.Proofs.YtnigmdkhecblnaaDoor

/-- The sum of the first n numbers. -/
def sumZ (f : Nat → Int) : Nat → Int
  | 0 => 0
  | n + 1 => sumZ f n + f n
theorem sumZ_congr {f g : Nat → Int} : ∀ {n : Nat}, (∀ i, i < n → f i = g i) → sumZ f n = sumZ g n
  | 0, _ => rfl
  | n + 1, h => by
    show sumZ f n + f n = sumZ g n + g n
    rw [sumZ_congr (fun i hi => h i (by omega)), h n (by omega)]
theorem sumZ_add (f g : Nat → Int) (n : Nat) : sumZ (fun i => f i + g i) n = sumZ f n + sumZ g n := by
  induction n with
  | zero => rfl
  | succ n ih => show sumZ (fun i => f i + g i) n + (f n + g n) = (sumZ f n + f n) + (sumZ g n + g n); rw [ih]; omega
theorem sumZ_two (f : Nat → Int) (n : Nat) : sumZ (fun i => 2 * f i) n = 2 * sumZ f n := by
  induction n with
  | zero => rfl
  | succ n ih => show sumZ (fun i => 2 * f i) n + 2 * f n = 2 * (sumZ f n + f n); rw [ih]; omega
theorem sumZ_zero {f : Nat → Int} : ∀ {n : Nat}, (∀ i, i < n → f i = 0) → sumZ f n = 0
  | 0, _ => rfl
  | n + 1, h => by
    show sumZ f n + f n = 0
    rw [sumZ_zero (fun i hi => h i (by omega)), h n (by omega)]; rfl
theorem sumZ_ones {f : Nat → Int} : ∀ {n : Nat}, (∀ i, i < n → f i = 1) → sumZ f n = n
  | 0, _ => rfl
  | n + 1, h => by
    show sumZ f n + f n = ((n + 1 : Nat) : Int)
    rw [sumZ_ones (fun i hi => h i (by omega)), h n (by omega)]; omega
theorem sumZ_split (f : Nat → Int) (m n : Nat) : sumZ f (m + n) = sumZ f m + sumZ (fun i => f (m + i)) n := by
  induction n with
  | zero => show sumZ f m = sumZ f m + 0; omega
  | succ n ih => show sumZ f (m + n) + f (m + n) = sumZ f m + (sumZ (fun i => f (m + i)) n + f (m + n)); rw [ih]; omega
theorem sumZ_pairs (f : Nat → Int) (n : Nat) : sumZ f (2 * n) = sumZ (fun i => f (2 * i) + f (2 * i + 1)) n := by
  induction n with
  | zero => rfl
  | succ n ih =>
    show sumZ f (2 * n) + f (2 * n) + f (2 * n + 1) = sumZ (fun i => f (2 * i) + f (2 * i + 1)) n + (f (2 * n) + f (2 * n + 1))
    rw [ih]; omega
theorem sumZ_first (f : Nat → Int) (n : Nat) : sumZ f (n + 1) = f 0 + sumZ (fun i => f (i + 1)) n := by
  have := sumZ_split f 1 n
  rw [Nat.add_comm, this]
  show 0 + f 0 + _ = _
  rw [sumZ_congr (f := fun i => f (1 + i)) (g := fun i => f (i + 1)) (fun i _ => by rw [Nat.add_comm])]
  omega
theorem sumZ_rev (f : Nat → Int) (n : Nat) : sumZ (fun i => f (n - 1 - i)) n = sumZ f n := by
  induction n with
  | zero => rfl
  | succ n ih =>
    rw [sumZ_first]
    show f n + sumZ (fun i => f (n - (i + 1))) n = sumZ f n + f n
    rw [← ih, sumZ_congr (f := fun i => f (n - (i + 1))) (g := fun i => f (n - 1 - i)) (fun i _ => by congr 1; omega)]
    omega

/-- The correlation as a sum over the whole code: what lies past its end is 0. -/
theorem corrTo_sum (a b : List Int) (lag k : Nat) : corrTo a b lag k = sumZ (fun i => a.getD (i + lag) 0 * b.getD i 0) k := by
  induction k with
  | zero => rfl
  | succ k ih => show corrTo a b lag k + _ = sumZ _ k + _; rw [ih]
theorem corrN_sum (a b : List Int) (lag : Nat) : corrN a b lag = sumZ (fun i => a.getD (i + lag) 0 * b.getD i 0) a.length := by
  unfold corrN
  rw [corrTo_sum]
  by_cases h : lag ≤ a.length
  · conv => rhs; rw [show a.length = (a.length - lag) + lag by omega, sumZ_split]
    rw [sumZ_zero (n := lag)]
    · omega
    · intro i _
      rw [getD_out (by omega), Int.zero_mul]
  · rw [show a.length - lag = 0 by omega, sumZ_zero (n := a.length)]
    · rfl
    · intro i _
      rw [getD_out (by omega), Int.zero_mul]

/-- A code with opposite numbers. -/
def negL (l : List Int) : List Int := l.map fun x => -x
@[simp] theorem negL_length (l : List Int) : (negL l).length = l.length := by simp [negL]
theorem negL_getD (l : List Int) (k : Nat) : (negL l).getD k 0 = -(l.getD k 0) := by
  simp only [negL, List.getD, List.getElem?_map]
  cases l[k]? <;> simp
theorem corrN_neg (l : List Int) (k : Nat) : corrN (negL l) (negL l) k = corrN l l k := by
  rw [corrN_sum, corrN_sum, negL_length]
  refine sumZ_congr fun i _ => ?_
  rw [negL_getD, negL_getD, Int.neg_mul_neg]
theorem corrN_rev (l : List Int) (k : Nat) : corrN l.reverse l.reverse k = corrN l l k := by
  have hg : ∀ i, i < l.length → l.reverse.getD i 0 = l.getD (l.length - 1 - i) 0 := fun i hi => by
    simp only [List.getD, List.getElem?_reverse hi]
  unfold corrN
  rw [corrTo_sum, corrTo_sum, List.length_reverse]
  rw [← sumZ_rev (fun i => l.getD (i + k) 0 * l.getD i 0)]
  refine sumZ_congr fun i hi => ?_
  rw [hg _ (by omega), hg _ (by omega), Int.mul_comm]
  congr 2 <;> omega

theorem app_getD (a b : List Int) (i : Nat) : (a ++ b).getD i 0 = if i < a.length then a.getD i 0 else b.getD (i - a.length) 0 := by
  simp only [List.getD, List.getElem?_append]
  split <;> rfl
theorem corrN_doubled {a b : List Int} (h : a.length = b.length) (k : Nat) :
    corrN (a ++ b) (a ++ b) k + corrN (a ++ negL b) (a ++ negL b) k = 2 * (corrN a a k + corrN b b k) := by
  rw [corrN_sum, corrN_sum, corrN_sum, corrN_sum]
  rw [show (a ++ b).length = a.length + b.length by simp, show (a ++ negL b).length = a.length + b.length by simp]
  rw [← sumZ_add, sumZ_split, Int.mul_add, ← sumZ_two, ← sumZ_two]
  congr 1
  · refine sumZ_congr fun i hi => ?_
    simp only [app_getD, negL_getD, if_pos hi]
    by_cases hk : i + k < a.length
    · simp only [if_pos hk]
      rw [← Int.mul_assoc, Int.two_mul, Int.add_mul]
    · simp only [if_neg hk]
      rw [getD_out (l := a) (k := i + k) (by omega), Int.neg_mul]
      simp
      omega
  · refine sumZ_congr fun i hi => ?_
    simp only [app_getD, negL_getD, if_neg (show ¬ (a.length + i < a.length) by omega), if_neg (show ¬ (a.length + i + k < a.length) by omega)]
    rw [show a.length + i + k - a.length = i + k by omega, show a.length + i - a.length = i by omega, Int.neg_mul_neg]
    omega

/-- The numbers of two codes by turns. -/
def turnsTo (a b : List Int) (k : Nat) : List Int := (List.range k).flatMap fun i => [a.getD i 0, b.getD i 0]
theorem turnsTo_succ (a b : List Int) (k : Nat) : turnsTo a b (k + 1) = turnsTo a b k ++ [a.getD k 0, b.getD k 0] := by
  simp [turnsTo, List.range_succ]
@[simp] theorem turnsTo_length (a b : List Int) (k : Nat) : (turnsTo a b k).length = 2 * k := by
  induction k with
  | zero => rfl
  | succ k ih => rw [turnsTo_succ, List.length_append, ih]; simp; omega
theorem turnsTo_even (a b : List Int) (k i : Nat) : (turnsTo a b k).getD (2 * i) 0 = if i < k then a.getD i 0 else 0 := by
  induction k with
  | zero => simp [turnsTo, List.getD]
  | succ k ih =>
    rw [turnsTo_succ, app_getD, turnsTo_length, ih]
    by_cases h1 : i < k
    · rw [if_pos (by omega), if_pos h1, if_pos (by omega)]
    · rw [if_neg (by omega)]
      by_cases h2 : i = k
      · subst h2
        rw [Nat.sub_self, if_pos (by omega)]; rfl
      · rw [if_neg (by omega), getD_out]
        simp; omega
theorem turnsTo_odd (a b : List Int) (k i : Nat) : (turnsTo a b k).getD (2 * i + 1) 0 = if i < k then b.getD i 0 else 0 := by
  induction k with
  | zero => simp [turnsTo, List.getD]
  | succ k ih =>
    rw [turnsTo_succ, app_getD, turnsTo_length, ih]
    by_cases h1 : i < k
    · rw [if_pos (by omega), if_pos h1, if_pos (by omega)]
    · rw [if_neg (by omega)]
      by_cases h2 : i = k
      · subst h2
        rw [show 2 * i + 1 - 2 * i = 1 by omega, if_pos (by omega)]; rfl
      · rw [if_neg (by omega), getD_out]
        simp; omega
theorem turns_even {a b : List Int} (i : Nat) : (turnsTo a b a.length).getD (2 * i) 0 = a.getD i 0 := by
  rw [turnsTo_even]
  split
  · rfl
  · rw [getD_out (by omega)]
theorem turns_odd {a b : List Int} (h : a.length = b.length) (i : Nat) : (turnsTo a b a.length).getD (2 * i + 1) 0 = b.getD i 0 := by
  rw [turnsTo_odd]
  split
  · rfl
  · rw [getD_out (by omega)]
theorem corrN_turns {a b : List Int} (h : a.length = b.length) (k : Nat) (ha : ∀ m, 2 * m = k → corrN a a m + corrN b b m = 0) :
    corrN (turnsTo a b a.length) (turnsTo a b a.length) k + corrN (turnsTo a (negL b) a.length) (turnsTo a (negL b) a.length) k = 0 := by
  have hn : a.length = (negL b).length := by simpa using h
  rw [corrN_sum, corrN_sum, turnsTo_length, turnsTo_length, ← sumZ_add, sumZ_pairs]
  rcases Nat.mod_two_eq_zero_or_one k with hk | hk
  · obtain ⟨m, rfl⟩ : ∃ m, k = 2 * m := ⟨k / 2, by omega⟩
    rw [sumZ_congr (g := fun i => 2 * (a.getD (i + m) 0 * a.getD i 0 + b.getD (i + m) 0 * b.getD i 0)), sumZ_two, sumZ_add]
    · have := ha m rfl
      rw [corrN_sum, corrN_sum, ← h] at this
      rw [this]; rfl
    · intro i _
      simp only [show 2 * i + 2 * m = 2 * (i + m) by omega, show 2 * i + 1 + 2 * m = 2 * (i + m) + 1 by omega, turns_even, turns_odd h, turns_odd hn, negL_getD, Int.neg_mul_neg]
      omega
  · obtain ⟨m, rfl⟩ : ∃ m, k = 2 * m + 1 := ⟨k / 2, by omega⟩
    refine sumZ_zero fun i _ => ?_
    simp only [show 2 * i + (2 * m + 1) = 2 * (i + m) + 1 by omega, show 2 * i + 1 + (2 * m + 1) = 2 * (i + m + 1) by omega, turns_even, turns_odd h, turns_odd hn, negL_getD, Int.neg_mul, Int.mul_neg]
    omega

/-- What is known of a complementary pair. -/
theorem lobe_zero {a b : List Int} (h : lobe a b = 0) (k : Nat) (h1 : 1 ≤ k) (h2 : k < a.length) : corrN a a k + corrN b b k = 0 := by
  induction k using Nat.strongRecOn with
  | _ k ih =>
    by_cases hz : corrN a a k + corrN b b k = 0
    · exact hz
    · have := lobe_at a b k h1 h2 (fun i h3 h4 => ih i h4 h3 (by omega)) hz
      omega
theorem corrN_far {l : List Int} {k : Nat} (h : l.length ≤ k) : corrN l l k = 0 := by
  unfold corrN
  rw [show l.length - k = 0 by omega]
  rfl
theorem lobe_all {a b : List Int} (h : lobe a b = 0) (hab : a.length = b.length) (k : Nat) (h1 : 1 ≤ k) : corrN a a k + corrN b b k = 0 := by
  by_cases hk : k < a.length
  · exact lobe_zero h k h1 hk
  · rw [corrN_far (by omega), corrN_far (by omega)]; rfl
theorem lobe_swap {a b : List Int} (h : lobe a b = 0) (hab : a.length = b.length) : lobe b a = 0 :=
  lobe_none _ _ fun i h1 _ => by have := lobe_all h hab i h1; omega
theorem lobe_rev {a b : List Int} (h : lobe a b = 0) (hab : a.length = b.length) : lobe a.reverse b = 0 :=
  lobe_none _ _ fun i h1 _ => by rw [corrN_rev]; exact lobe_all h hab i h1
theorem lobe_neg {a b : List Int} (h : lobe a b = 0) (hab : a.length = b.length) : lobe a (negL b) = 0 :=
  lobe_none _ _ fun i h1 _ => by rw [corrN_neg]; exact lobe_all h hab i h1
theorem lobe_doubled {a b : List Int} (h : lobe a b = 0) (hab : a.length = b.length) : lobe (a ++ b) (a ++ negL b) = 0 :=
  lobe_none _ _ fun i h1 _ => by rw [corrN_doubled hab, lobe_all h hab i h1]; rfl
theorem lobe_turns {a b : List Int} (h : lobe a b = 0) (hab : a.length = b.length) : lobe (turnsTo a b a.length) (turnsTo a (negL b) a.length) = 0 :=
  lobe_none _ _ fun i h1 _ => corrN_turns hab i fun m hm => lobe_all h hab m (by omega)

/-- The numbers of a code are 1 or -1. -/
def Pm (l : List Int) : Prop := ∀ x ∈ l, x = 1 ∨ x = -1
theorem Pm.neg {l : List Int} (h : Pm l) : Pm (negL l) := fun x hx => by
  obtain ⟨y, hy, rfl⟩ := List.mem_map.1 hx
  rcases h y hy with rfl | rfl
  · exact .inr rfl
  · exact .inl rfl
theorem Pm.rev {l : List Int} (h : Pm l) : Pm l.reverse := fun x hx => h x (List.mem_reverse.1 hx)
theorem Pm.app {a b : List Int} (h : Pm a) (k : Pm b) : Pm (a ++ b) := fun x hx => by
  rcases List.mem_append.1 hx with h1 | h1
  · exact h x h1
  · exact k x h1
theorem Pm.at_ {l : List Int} (h : Pm l) {i : Nat} (hi : i < l.length) : l.getD i 0 = 1 ∨ l.getD i 0 = -1 := by
  have : l.getD i 0 = l[i] := by simp [List.getD, hi]
  rw [this]; exact h _ (List.getElem_mem hi)
theorem Pm.turns {a b : List Int} (h : Pm a) (k : Pm b) (hab : a.length = b.length) : Pm (turnsTo a b a.length) := fun x hx => by
  obtain ⟨i, hi, hx⟩ := List.mem_flatMap.1 hx
  have hi : i < a.length := by simpa using hi
  simp only [List.mem_cons, List.not_mem_nil, or_false] at hx
  rcases hx with rfl | rfl
  · exact h.at_ hi
  · exact k.at_ (by omega)
theorem corrN_self {l : List Int} (h : Pm l) : corrN l l 0 = l.length := by
  rw [corrN_sum]
  refine sumZ_ones fun i hi => ?_
  rw [Nat.add_zero]
  rcases h.at_ hi with e | e <;> rw [e] <;> rfl
end Go.Proofs.YtnigmdkhecblnaaDoor
