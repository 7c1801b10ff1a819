/- Whatever was lost: the sum over all samples, and the level. Plain. -/
import Derived.Test.YthkmeaibppkhmaaDoorV6
import Derived.Test.YthkmeaibppkhmaaDoorR8
namespace Go.Proofs.YthkmeaibppkhmaaDoor
open Go.RowKit
set_option maxRecDepth 100000

/-- The list that all samples become, when the first k have been looked at. -/
structure AllI (us : List Bool) (samples : List (Int × Int)) (b : Int) (k : Nat) (L : List (Int × Int)) : Prop where
  len : L.length = samples.length
  same : ∀ i, (us.getD i false = true ∨ k ≤ i) → L.getD i (0, 0) = samples.getD i (0, 0)
  few : ∀ i, i < k → us.getD i false = false → gle b (L.getD i (0, 0))
theorem AllI.zero (us : List Bool) (samples : List (Int × Int)) (b : Int) : AllI us samples b 0 samples := ⟨rfl, fun _ _ => rfl, fun i h => by omega⟩
section
variable {us : List Bool} {samples L : List (Int × Int)} {b : Int} {k : Nat}
theorem AllI.hit (h : AllI us samples b k L) (hk : us.getD k false = true) : AllI us samples b (k + 1) L := by
  refine ⟨h.len, fun i hi => h.same i ?_, fun i hi hu => h.few i ?_ hu⟩
  · rcases hi with hi | hi
    · exact .inl hi
    · exact .inr (by omega)
  · rcases Nat.lt_or_eq_of_le (Nat.le_of_lt_succ hi) with e | e
    · exact e
    · subst e; rw [hk] at hu; cases hu
theorem AllI.miss (h : AllI us samples b k L) (hk : us.getD k false = false) (hl : k < samples.length) {g : Int × Int} (hg : gle b g) : AllI us samples b (k + 1) (L.set k g) := by
  have hlk : k < L.length := by rw [h.len]; exact hl
  refine ⟨by rw [List.length_set]; exact h.len, fun i hi => ?_, fun i hi hu => ?_⟩
  · have hne : k ≠ i := by
      rintro rfl
      rcases hi with hi | hi
      · rw [hk] at hi; cases hi
      · omega
    rw [List.getD, List.getElem?_set_ne hne]
    refine h.same i ?_
    rcases hi with hi | hi
    · exact .inl hi
    · exact .inr (by omega)
  · by_cases e : k = i
    · subst e
      rw [List.getD, List.getElem?_set_self hlk]
      exact hg
    · rw [List.getD, List.getElem?_set_ne e]
      exact h.few i (by omega) hu
theorem AllI.bound (h : AllI us samples b samples.length L) (hb : ∀ g ∈ samples, gle 2000000 g) (hb1 : b ≤ 2000000) {i : Nat} (hi : i < samples.length) : gle 2000000 (L.getD i (0, 0)) := by
  cases hu : us.getD i false
  · have := h.few i hi hu
    simp only [gle] at this ⊢
    omega
  · rw [h.same i (.inl hu), List.getD, List.getElem?_eq_getElem hi]
    exact hb _ (List.getElem_mem _)
end

/-- The sum over all samples, over the first numbers of a wave. -/
def fullS (all wave : List (Int × Int)) (lag : Nat) : Nat → Int × Int
  | 0 => (0, 0)
  | i + 1 => gadd (fullS all wave lag i) (gmul (gconj (wave.getD i (0, 0))) (all.getD (i + lag) (0, 0)))

theorem fullS_bd {all wave : List (Int × Int)} {lag n : Nat} (hb : ∀ i, i < n → gle 2000000 (all.getD i (0, 0))) (hw : ∀ g ∈ wave, ∃ t, t < 4 ∧ g = turnG t) : ∀ i, i ≤ wave.length → lag + wave.length ≤ n → gle (i * 2000000) (fullS all wave lag i) := by
  intro i
  induction i with
  | zero => intro _ _; simp [fullS, gle]
  | succ i ih =>
    intro hi hl
    have h0 := ih (by omega) hl
    have e : ((i + 1 : Nat) : Int) * 2000000 = (i : Int) * 2000000 + 2000000 := by rw [Int.natCast_succ, Int.add_mul, Int.one_mul]
    rw [e]
    simp only [fullS]
    obtain ⟨t, ht, hg⟩ := hw (wave.getD i (0, 0)) (by rw [List.getD, List.getElem?_eq_getElem (show i < wave.length by omega)]; exact List.getElem_mem _)
    obtain ⟨j, hj, hc⟩ := conj_turn ht
    have h1 := hb (i + lag) (by omega)
    rw [hg, hc]
    have h2 := gle_turn hj h1
    simp only [gle, gadd] at h0 h2 ⊢
    omega

def gdif (a b : Int × Int) : Int × Int := (a.1 - b.1, a.2 - b.2)
theorem full_near {us : List Bool} {samples all wave : List (Int × Int)} {lag : Nat} {b : Int} (hA : AllI us samples b samples.length all) (hw : ∀ g ∈ wave, ∃ t, t < 4 ∧ g = turnG t) : ∀ i, i ≤ wave.length → lag + wave.length ≤ samples.length → gle (compM us lag i * b) (gdif (fullS all wave lag i) (compS us samples wave lag i)) := by
  intro i
  induction i with
  | zero => intro _ _; simp [fullS, compS, compM, gle, gdif]
  | succ i ih =>
    intro hi hl
    have h0 := ih (by omega) hl
    cases hu : us.getD (lag + i) false
    · rw [compM_miss hu, compS_miss hu]
      have e : ((compM us lag i + 1 : Nat) : Int) * b = (compM us lag i : Int) * b + b := by rw [Int.natCast_succ, Int.add_mul, Int.one_mul]
      rw [e]
      obtain ⟨t, ht, hg⟩ := hw (wave.getD i (0, 0)) (by rw [List.getD, List.getElem?_eq_getElem (show i < wave.length by omega)]; exact List.getElem_mem _)
      obtain ⟨j, hj, hc⟩ := conj_turn ht
      have h1 := hA.few (lag + i) (by omega) hu
      have h2 := gle_turn hj h1
      simp only [fullS]
      rw [hg, hc, Nat.add_comm i lag]
      generalize (compM us lag i : Int) * b = mb at h0 ⊢
      simp only [gle, gadd, gdif] at h0 h2 ⊢
      omega
    · rw [compM_hit hu, compS_hit hu]
      simp only [fullS]
      rw [Nat.add_comm i lag, hA.same (lag + i) (.inl hu)]
      generalize gmul (gconj (wave.getD i (0, 0))) (samples.getD (lag + i) (0, 0)) = z
      generalize (compM us lag i : Int) * b = mb at h0 ⊢
      simp only [gle, gadd, gdif] at h0 ⊢
      omega

theorem sq_in {n v d : Int} (h1 : v - n ≤ d) (h2 : n - v ≤ d) : loS n d ≤ v * v ∧ v * v ≤ hiS n d := by
  have e : v * v = szI v * szI v := by
    unfold szI; split
    · rw [sq_neg]
    · rfl
  have a1 : leI n d ≤ szI v := by unfold leI szI; repeat' split <;> omega
  have a0 : 0 ≤ leI n d := by unfold leI; split <;> omega
  have a2 : szI v ≤ szI n + d := by unfold szI; repeat' split <;> omega
  rw [e]
  exact ⟨sq_le a0 a1, sq_le (szI_nonneg v) a2⟩
theorem loS_anti {n d d' : Int} (h : d ≤ d') : loS n d' ≤ loS n d := by
  have a0 : 0 ≤ leI n d' := by unfold leI; split <;> omega
  have a1 : leI n d' ≤ leI n d := by unfold leI; repeat' split <;> omega
  exact sq_le a0 a1
theorem hiS_mono {n d d' : Int} (h0 : 0 ≤ d) (h : d ≤ d') : hiS n d ≤ hiS n d' := by
  have := szI_nonneg n
  exact sq_le (by omega) (by omega)

theorem lv_mono {vals : List (Int × Int)} {miss : List Int} {k : Nat} {b c : Int} (hm : 0 ≤ miss.getD k 0) (hb : 0 ≤ b) (h : b ≤ c) : lvLo vals miss k c ≤ lvLo vals miss k b ∧ lvHi vals miss k b ≤ lvHi vals miss k c := by
  have h1 := Int.mul_le_mul_of_nonneg_left h hm
  have h2 := Int.mul_nonneg hm hb
  refine ⟨?_, ?_⟩
  · exact Int.add_le_add (loS_anti h1) (loS_anti h1)
  · exact Int.add_le_add (hiS_mono h2 h1) (hiS_mono h2 h1)
theorem ans_sure {vals : List (Int × Int)} {miss : List Int} {k : Nat} {b t n : Int} (h1 : lvLo vals miss k b ≤ n) (h2 : n ≤ lvHi vals miss k b) : (ansN vals miss k b t = 2 → t * t ≤ n) ∧ (ansN vals miss k b t = 0 → n < t * t) := by
  unfold ansN
  by_cases c1 : t * t ≤ lvLo vals miss k b
  · rw [if_pos c1]
    exact ⟨fun _ => Int.le_trans c1 h1, fun h => absurd h (by decide)⟩
  · rw [if_neg c1]
    by_cases c2 : lvHi vals miss k b < t * t
    · rw [if_pos c2]
      exact ⟨fun h => absurd h (by decide), fun _ => Int.lt_of_le_of_lt h2 c2⟩
    · rw [if_neg c2]
      exact ⟨fun h => absurd h (by decide), fun h => absurd h (by decide)⟩

theorem compV_len (us : List Bool) (samples wave : List (Int × Int)) (n : Nat) : (compV us samples wave n).length = n := by simp [compV]
theorem compMs_len (us : List Bool) (wave : List (Int × Int)) (n : Nat) : (compMs us wave n).length = n := by simp [compMs]
theorem compV_at {us : List Bool} {samples wave : List (Int × Int)} {n k : Nat} (h : k < n) : (compV us samples wave n).getD k (0, 0) = compS us samples wave k wave.length := by simp [compV, List.getD, h]
theorem compMs_at {us : List Bool} {wave : List (Int × Int)} {n k : Nat} (h : k < n) : (compMs us wave n).getD k 0 = (compM us k wave.length : Int) := by simp [compMs, List.getD, h]

theorem line_of {us : List Bool} {samples wave : List (Int × Int)} {n : Nat} (hb : ∀ g ∈ samples, gle 2000000 g) (hw : ∀ g ∈ wave, ∃ t, t < 4 ∧ g = turnG t) (hw2 : wave.length ≤ 32) (hn : n + wave.length ≤ samples.length + 1) (hn1 : 1 ≤ n) (hn2 : n ≤ 64) : lineE (compV us samples wave n) (compMs us wave n) = 0 := by
  refine lineE_good ?_ fun j hj => ?_
  · rw [compV_len, compMs_len]
    simp only [lineHd, bne_self_eq_false, errIf, firstE, lenE_eq]
    simp
    rw [if_neg (by omega), if_neg (by omega)]
    exact fun h => absurd rfl h
  · rw [compV_len] at hj
    have e1 : (compV us samples wave n)[j]'(by rw [compV_len]; exact hj) = compS us samples wave j wave.length := by simp [compV]
    rw [e1]
    have h1 := compS_bd us samples wave j hb hw wave.length (Nat.le_refl _) (by omega)
    have h2 := compM_le us j wave.length
    have h3 : beyB (compS us samples wave j wave.length) 1000000000 = false := by
      simp only [gle] at h1
      have : outB (compS us samples wave j wave.length).1 (-1000000000) 1000000000 = false := outB_false.2 (by omega)
      have : outB (compS us samples wave j wave.length).2 (-1000000000) 1000000000 = false := outB_false.2 (by omega)
      simp only [beyB, *, Bool.or_self]
    have h4 : outB ((compMs us wave n).getD j 0) 0 64 = false := by rw [compMs_at hj]; exact outB_false.2 (by omega)
    unfold lineItem
    rw [h3, h4]; rfl

theorem lost_at {us : List Bool} {samples wave all : List (Int × Int)} {n k : Nat} {b t : Int} (hA : AllI us samples b samples.length all) (hw : ∀ g ∈ wave, ∃ t, t < 4 ∧ g = turnG t) (hk : k < n) (hn : n + wave.length ≤ samples.length + 1) (hb : 0 ≤ b) :
    ∃ N, N = (fullS all wave k wave.length).1 * (fullS all wave k wave.length).1 + (fullS all wave k wave.length).2 * (fullS all wave k wave.length).2 ∧
      lvLo (compV us samples wave n) (compMs us wave n) k b ≤ N ∧ N ≤ lvHi (compV us samples wave n) (compMs us wave n) k b ∧
      lvLo (compV us samples wave n) (compMs us wave n) k (b + 10) ≤ lvLo (compV us samples wave n) (compMs us wave n) k b ∧ lvHi (compV us samples wave n) (compMs us wave n) k b ≤ lvHi (compV us samples wave n) (compMs us wave n) k (b + 10) ∧
      (ansN (compV us samples wave n) (compMs us wave n) k b t = 2 → t * t ≤ N) ∧ (ansN (compV us samples wave n) (compMs us wave n) k b t = 0 → N < t * t) := by
  have h1 := full_near (lag := k) hA hw wave.length (Nat.le_refl _) (by omega)
  have hm : (0 : Int) ≤ (compMs us wave n).getD k 0 := by rw [compMs_at hk]; omega
  obtain ⟨m1, m2⟩ := lv_mono (vals := compV us samples wave n) hm hb (show b ≤ b + 10 by omega)
  have hl : lvLo (compV us samples wave n) (compMs us wave n) k b ≤ (fullS all wave k wave.length).1 * (fullS all wave k wave.length).1 + (fullS all wave k wave.length).2 * (fullS all wave k wave.length).2 ∧ (fullS all wave k wave.length).1 * (fullS all wave k wave.length).1 + (fullS all wave k wave.length).2 * (fullS all wave k wave.length).2 ≤ lvHi (compV us samples wave n) (compMs us wave n) k b := by
    unfold lvLo lvHi
    rw [compV_at hk, compMs_at hk]
    generalize (compM us k wave.length : Int) * b = d at h1 ⊢
    generalize fullS all wave k wave.length = v at h1 ⊢
    generalize compS us samples wave k wave.length = c at h1 ⊢
    obtain ⟨q1, q2, q3, q4⟩ := h1
    simp only [gdif] at q1 q2 q3 q4
    have s1 := sq_in (n := c.1) (v := v.1) (d := d) (by omega) (by omega)
    have s2 := sq_in (n := c.2) (v := v.2) (d := d) (by omega) (by omega)
    exact ⟨Int.add_le_add s1.1 s2.1, Int.add_le_add s1.2 s2.2⟩
  exact ⟨_, rfl, hl.1, hl.2, m1, m2, ans_sure hl.1 hl.2⟩
end Go.Proofs.YthkmeaibppkhmaaDoor
