/- An invariant for a drawn region, in a round too: each operation is walked once. Plain laws over any program. -/
import Derived.Test.YtkcjiejdjdcbeaaN0
import Derived.OrdersIn
set_option linter.unusedSimpArgs false
set_option linter.unusedVariables false
set_option linter.unusedSimpArgs false
set_option linter.unusedVariables false
namespace Go.Proofs.Ytkcjiejdjdcbeaa
open Go.RowKit
set_option maxRecDepth 100000

theorem count_set_false : ∀ (l : List Bool) (i : Nat), l.getD i true = false → l.count false = (l.set i true).count false + 1
  | [], i, h => by simp at h
  | x :: l, 0, h => by
    have : x = false := by simpa using h
    subst this
    simp
  | x :: l, i + 1, h => by
    have ih := count_set_false l i (by simpa using h)
    simp only [List.set_cons_succ, List.count_cons]
    omega
theorem ready_count {listed : Array Bool} {i : Nat} (h : listed.getD i true = false) : listed.toList.count false = (listed.setIfInBounds i true).toList.count false + 1 := by
  obtain ⟨l⟩ := listed
  have := count_set_false l i (by simpa [Array.getD_eq_getD_getElem?, List.getD_eq_getElem?_getD] using h)
  simpa using this
/-- What holds however far the region has come, holds at its end: 'I' of what was carried out, the frame, the world. -/
theorem wpAnyIn_inv {F : Fence} {n : Nat} {P : Program} {ops : Array Oper} {Q : Exit → Act → World → Prop} (I : Array Bool → Act → World → Prop)
    (hstep : ∀ listed a w i, I listed a w → i ∈ Region.ready .any ops listed → wpOpIn F n P ops Q i (I (listed.setIfInBounds i true)) a w)
    (hend : ∀ listed a w, I listed a w → Region.ready .any ops listed = [] → Q .normal a w) :
    ∀ (fuel : Nat) (listed : Array Bool) (a : Act) (w : World), listed.toList.count false ≤ fuel → I listed a w → wpAnyIn F n P .any ops Q fuel listed a w
  | 0, listed, a, w, hf, h => by
    have hr : Region.ready .any ops listed = [] := by
      cases e : Region.ready .any ops listed with
      | nil => rfl
      | cons i l =>
        exfalso
        have hi : i ∈ Region.ready .any ops listed := by rw [e]; simp
        have := ready_count (mem_ready.1 hi).1
        omega
    exact ⟨hr, hend _ _ _ h hr⟩
  | fuel + 1, listed, a, w, hf, h => by
    refine ⟨hend _ _ _ h, fun i hi => wpOpIn_mono (fun a' w' h' => wpAnyIn_inv I hstep hend fuel _ a' w' ?_ h') (hstep _ _ _ _ h hi)⟩
    have := ready_count (mem_ready.1 hi).1
    omega
theorem region_inv {F : Fence} {n : Nat} {P : Program} {id : Nat} {ops : Array Oper} {Q : Exit → Act → World → Prop} {a : Act} {w : World} (hm : P.follows .mixedOrders = true) (I : Array Bool → Act → World → Prop)
    (hstep : ∀ listed a w i, I listed a w → i ∈ Region.ready .any ops listed → wpOpIn F n P ops Q i (I (listed.setIfInBounds i true)) a w)
    (hend : ∀ listed a w, I listed a w → Region.ready .any ops listed = [] → Q .normal a w)
    (h0 : I (Array.replicate ops.size false) a w.drew) : (Code.region id ops true).wpIn F n P Q a w :=
  wpIn_region_any hm (wpAnyIn_inv I hstep hend ops.size _ a _ (by simp) h0)
/-- One operation, carried out. -/
theorem wpOpIn_do {F : Fence} {n : Nat} {P : Program} {ops : Array Oper} {Q : Exit → Act → World → Prop} {i : Nat} {o : Oper} {K : Act → World → Prop} {a : Act} {w : World} (hi : ops[i]? = some o) (hg : o.guard = none)
    (h : ∀ K' : Act → World → Prop, (∀ a w, K a w → K' a w) → o.wpIn F n P a w K' Q) : wpOpIn F n P ops Q i K a w := by
  unfold wpOpIn
  rw [hi]
  dsimp only
  rw [if_pos (by simp [Region.wanted, hg])]
  exact h K (fun _ _ h => h)
end Go.Proofs.Ytkcjiejdjdcbeaa
