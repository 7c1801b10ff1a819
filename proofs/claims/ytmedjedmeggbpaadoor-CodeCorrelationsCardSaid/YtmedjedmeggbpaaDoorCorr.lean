/- The correlation of two lists of numbers as a plain sum; its bounds. No condition. -/
import Derived.Test.YtmedjedmeggbpaaDoorSpec
namespace Go.Proofs.YtmedjedmeggbpaaDoor

/-- The first so many terms of the correlation at a lag from 0 on, added up. -/
def corrTo (a b : List Int) (lag : Nat) : Nat → Int
  | 0 => 0
  | k + 1 => corrTo a b lag k + a.getD (k + lag) 0 * b.getD k 0
/-- The correlation at a lag from 0 on. -/
def corrN (a b : List Int) (lag : Nat) : Int := corrTo a b lag (a.length - lag)
/-- The correlation at any lag. -/
def corr (a b : List Int) (lag : Int) : Int := if lag < 0 then corrN b a (-lag).toNat else corrN a b lag.toNat

/-- Numbers of size at most one. -/
def Small (l : List Int) : Prop := ∀ x ∈ l, -1 ≤ x ∧ x ≤ 1
theorem Small.at_ {l : List Int} (h : Small l) (k : Nat) : -1 ≤ l.getD k 0 ∧ l.getD k 0 ≤ 1 := by
  by_cases hk : k < l.length
  · have e : l.getD k 0 = l[k] := by simp [List.getD, hk]
    rw [e]; exact h _ (List.getElem_mem hk)
  · have e : l.getD k 0 = 0 := by simp [List.getD, Nat.le_of_not_lt hk]
    rw [e]; omega
theorem small_mul {x y : Int} (h1 : -1 ≤ x) (h2 : x ≤ 1) (h3 : -1 ≤ y) (h4 : y ≤ 1) : -1 ≤ x * y ∧ x * y ≤ 1 := by
  have hx : x = -1 ∨ x = 0 ∨ x = 1 := by omega
  have hy : y = -1 ∨ y = 0 ∨ y = 1 := by omega
  rcases hx with rfl | rfl | rfl <;> rcases hy with rfl | rfl | rfl <;> decide
theorem corrTo_bd {a b : List Int} (ha : Small a) (hb : Small b) (lag k : Nat) : -(k : Int) ≤ corrTo a b lag k ∧ corrTo a b lag k ≤ k := by
  induction k with
  | zero => simp [corrTo]
  | succ k ih =>
    have h1 := ha.at_ (k + lag)
    have h2 := hb.at_ k
    have h3 := small_mul h1.1 h1.2 h2.1 h2.2
    simp only [corrTo]
    omega
theorem corrN_bd {a b : List Int} (ha : Small a) (hb : Small b) (lag : Nat) : -(a.length : Int) ≤ corrN a b lag ∧ corrN a b lag ≤ a.length := by
  have := corrTo_bd ha hb lag (a.length - lag)
  unfold corrN
  omega

/-- The first lag from 1 on at which the sum of both correlations is not 0, 0 if there is none. -/
def lobeFrom (a b : List Int) : Nat → Nat → Int
  | 0, _ => 0
  | n + 1, k => if corrN a a k + corrN b b k ≠ 0 then (k : Int) else lobeFrom a b n (k + 1)
def lobe (a b : List Int) : Int := lobeFrom a b (a.length - 1) 1

theorem lobeFrom_skip (a b : List Int) (n k j : Nat) (hj : j ≤ n) (h : ∀ i, k ≤ i → i < k + j → corrN a a i + corrN b b i = 0) : lobeFrom a b n k = lobeFrom a b (n - j) (k + j) := by
  induction j generalizing n k with
  | zero => rfl
  | succ j ih =>
    obtain ⟨n, rfl⟩ : ∃ m, n = m + 1 := ⟨n - 1, by omega⟩
    have h0 := h k (by omega) (by omega)
    simp only [lobeFrom, h0, ne_eq, not_true_eq_false, if_false]
    rw [ih n (k + 1) (by omega) (fun i h1 h2 => h i (by omega) (by omega))]
    congr 1 <;> omega
theorem lobe_none (a b : List Int) (h : ∀ i, 1 ≤ i → i < a.length → corrN a a i + corrN b b i = 0) : lobe a b = 0 := by
  unfold lobe
  rw [lobeFrom_skip a b _ 1 (a.length - 1) (Nat.le_refl _) (fun i h1 h2 => h i h1 (by omega)), Nat.sub_self]
  rfl
theorem lobe_at (a b : List Int) (k : Nat) (h1 : 1 ≤ k) (h2 : k < a.length) (h : ∀ i, 1 ≤ i → i < k → corrN a a i + corrN b b i = 0) (hk : corrN a a k + corrN b b k ≠ 0) : lobe a b = k := by
  unfold lobe
  rw [lobeFrom_skip a b _ 1 (k - 1) (by omega) (fun i h3 h4 => h i h3 (by omega))]
  obtain ⟨m, hm⟩ : ∃ m, a.length - 1 - (k - 1) = m + 1 := ⟨a.length - 1 - k, by omega⟩
  rw [hm, show 1 + (k - 1) = k from by omega]
  simp only [lobeFrom, ne_eq, hk, not_false_eq_true, if_true]
end Go.Proofs.YtmedjedmeggbpaaDoor
