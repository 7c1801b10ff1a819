/- Plain words for the reference's greatest group: a set's stations, bit by bit. -/
import Derived.Test.YtmdmkmfemhkfgaaE36
set_option linter.unusedSimpArgs false
set_option linter.unusedVariables false
set_option linter.unusedSimpArgs false
set_option linter.unusedVariables false
namespace Go.Proofs.Ytmdmkmfemhkfgaa
open Go.RowKit
set_option maxRecDepth 100000

/-- The stations of a set, the first m looked at. -/
def setL (set m : Nat) : List Int := ((List.range m).filter fun i => set.testBit i).map fun (i : Nat) => (i : Int)
theorem setL_succ (set m : Nat) : setL set (m + 1) = if set.testBit m then setL set m ++ [(m : Int)] else setL set m := by
  unfold setL
  rw [List.range_succ, List.filter_append, List.map_append]
  by_cases h : set.testBit m = true
  · rw [if_pos h]; simp [List.filter, h]
  · rw [if_neg h]; simp [List.filter, h]
theorem setL_length (set m : Nat) : (setL set m).length ≤ m := by
  unfold setL
  rw [List.length_map]
  exact Nat.le_trans (List.length_filter_le _ _) (by simp)
theorem mem_setL {set m : Nat} {x : Int} : x ∈ setL set m ↔ ∃ i : Nat, i < m ∧ set.testBit i = true ∧ x = (i : Int) := by
  unfold setL
  rw [List.mem_map]
  constructor
  · rintro ⟨i, hi, rfl⟩
    rw [List.mem_filter, List.mem_range] at hi
    exact ⟨i, hi.1, hi.2, rfl⟩
  · rintro ⟨i, h1, h2, rfl⟩
    exact ⟨i, List.mem_filter.2 ⟨List.mem_range.2 h1, h2⟩, rfl⟩
theorem bit_all : ∀ k : Fin 256, ∀ m : Fin 8, (bits .and .i64 (((k.1 : Nat) : Int) / 2 ^ m.1) 1 == 1) = k.1.testBit m.1 := by decide +kernel
theorem bit_at {k m : Nat} (hk : k < 256) (hm : m < 8) : (bits .and .i64 ((k : Int) / 2 ^ m) 1 == 1) = k.testBit m := bit_all ⟨k, hk⟩ ⟨m, hm⟩
/-- All pairs of a list disturb each other, the pairs of its first i stations. -/
def allB (l : List G) (L : List Int) (i : Nat) : Bool := (List.range i).all fun b => (List.range b).all fun a => decide ((L.getD a 0, L.getD b 0) ∈ l)
/-- A set's stations against the best so far. -/
def bestOf (l : List G) (best L : List Int) : List Int := if allB l L L.length && (decide (best.length < L.length) || (decide (L.length = best.length) && lexB L best)) then L else best
/-- The reference's greatest group of the sets 1 .. k - 1. -/
def refBest (l : List G) (n k : Nat) : List Int := (List.range (k - 1)).foldl (fun best j => bestOf l best (setL (j + 1) n)) []
theorem refBest_succ (l : List G) (n k : Nat) (hk : 1 ≤ k) : refBest l n (k + 1) = bestOf l (refBest l n k) (setL k n) := by
  unfold refBest
  rw [show k + 1 - 1 = (k - 1) + 1 by omega, List.range_succ, List.foldl_append, List.foldl_cons, List.foldl_nil, show k - 1 + 1 = k by omega]
end Go.Proofs.Ytmdmkmfemhkfgaa
