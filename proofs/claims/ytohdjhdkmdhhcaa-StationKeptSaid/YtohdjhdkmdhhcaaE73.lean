/- Mathematics: when the items of a queue are sent. Plain lemmas; no condition. -/
import Derived.Test.YtohdjhdkmdhhcaaE68
set_option linter.unusedSimpArgs false
set_option linter.unusedVariables false
set_option linter.unusedSimpArgs false
set_option linter.unusedVariables false
namespace Go.Proofs.Ytohdjhdkmdhhcaa

theorem firstE_cons_zero {e : Int} {l : List Int} : firstE (e :: l) = 0 ↔ e = 0 ∧ firstE l = 0 := by
  by_cases h : e = 0 <;> simp [firstE, h]
/-- The sizes of the first k items in their order. -/
def sumTo (q : List IT) (k : Nat) : Int := (((ordL q).take k).map (itS q)).sum
theorem sumTo_zero (q : List IT) : sumTo q 0 = 0 := by simp [sumTo]
theorem sumTo_succ (q : List IT) {k : Nat} (h : k < (ordL q).length) : sumTo q (k + 1) = sumTo q k + itS q (ordL q)[k] := by
  unfold sumTo
  rw [List.take_succ_eq_append_getElem h, List.map_append, List.sum_append]
  simp
/-- Sizes of a valid queue. -/
structure SzOk (q : List IT) : Prop where
  len : q.length ≤ 20
  sz : ∀ k (h : k < q.length), 1 ≤ q[k].2.2.1 ∧ q[k].2.2.1 ≤ 10000
  tk : ∀ k (h : k < q.length), 0 ≤ q[k].2.2.2 ∧ q[k].2.2.2 ≤ 1000000000000
  pr : ∀ k (h : k < q.length), 0 ≤ q[k].2.1 ∧ q[k].2.1 ≤ 9
theorem itemE_zero {q : List IT} {x : IT} (h : itemE q x = 0) : (0 ≤ x.2.1 ∧ x.2.1 ≤ 9) ∧ (1 ≤ x.2.2.1 ∧ x.2.2.1 ≤ 10000) ∧ (0 ≤ x.2.2.2 ∧ x.2.2.2 ≤ 1000000000000) ∧ nameB (byI x.1) = true ∧ (q.any fun y => eqS y.1 x.1) = false := by
  unfold itemE at h
  rw [firstE_cons_zero, firstE_cons_zero, firstE_cons_zero, firstE_cons_zero] at h
  obtain ⟨h1, h2, h3, h4, h5⟩ := h
  have h5' : tickE x.2.2.2 = 0 := by
    by_cases e : tickE x.2.2.2 = 0
    · exact e
    · simp only [firstE, if_neg e] at h5; exact h5
  refine ⟨outB_false.1 (errIf_zero (by decide) h3), outB_false.1 (errIf_zero (by decide) h4), tickE_zero h5', ?_, errIf_zero (by decide) h2⟩
  have := errIf_zero (by decide) h1
  simpa using this
theorem queE_ok {q : List IT} (h : (queE q).2 = 0) : q.length ≤ 20 ∧ ∀ k (hk : k < q.length), itemE (q.take k) q[k] = 0 := by
  unfold queE at h
  split at h
  · cases h
  · rename_i hl
    refine ⟨by omega, fun k hk => ?_⟩
    by_cases e : ∀ j (hj : j < k), itemE (q.take j) (q[j]'(by omega)) = 0
    · by_cases e2 : itemE (q.take k) q[k] = 0
      · exact e2
      · have := firstBadFrom_some (fun k x => itemE (q.take k) x) q 0 k hk (fun i hi => by simpa using e i hi) (by simpa using e2)
        rw [this] at h
        exact absurd h (by simpa using e2)
    · exfalso
      have key : ∀ n, n ≤ q.length → (∀ j (hj : j < n) (hq : j < q.length), itemE (q.take j) q[j] = 0) := by
        intro n
        induction n with
        | zero => intro _ j hj; omega
        | succ n ih =>
          intro hn j hj hq
          by_cases e3 : j < n
          · exact ih (by omega) j e3 hq
          · obtain rfl : j = n := by omega
            by_cases e2 : itemE (q.take j) q[j] = 0
            · exact e2
            · have := firstBadFrom_some (fun k x => itemE (q.take k) x) q 0 j hq (fun i hi => by simpa using ih (by omega) i hi (by omega)) (by simpa using e2)
              rw [this] at h
              exact absurd h (by simpa using e2)
      exact e fun j hj => key k (by omega) j hj (by omega)
theorem szOk {q : List IT} (h : (queE q).2 = 0) : SzOk q := by
  obtain ⟨h1, h2⟩ := queE_ok h
  exact ⟨h1, fun k hk => (itemE_zero (h2 k hk)).2.1, fun k hk => (itemE_zero (h2 k hk)).2.2.1, fun k hk => (itemE_zero (h2 k hk)).1⟩
theorem sumTo_bd {q : List IT} (h : SzOk q) : ∀ k, k ≤ (ordL q).length → (k : Int) ≤ sumTo q k ∧ sumTo q k ≤ 10000 * k
  | 0, _ => by rw [sumTo_zero]; simp
  | k + 1, hk => by
    have ih := sumTo_bd h k (by omega)
    have hm : (ordL q)[k] < q.length := (ordL_mem q).1 (List.getElem_mem _)
    have := h.sz _ hm
    rw [sumTo_succ q (by omega), itS_at hm]
    omega
/-- The ends of the first k items in their order, the others 0. -/
def endTo (q : List IT) (b u : Int) (k : Nat) : List Int := (List.range q.length).map fun i => if rankTo q i q.length < k then b + upD (sumTo q (rankTo q i q.length + 1)) u else 0
theorem endTo_len (q : List IT) (b u : Int) (k : Nat) : (endTo q b u k).length = q.length := by simp [endTo]
theorem endTo_zero (q : List IT) (b u : Int) : endTo q b u 0 = List.replicate q.length 0 := by
  refine List.ext_getElem (by rw [endTo_len]; simp) fun j h1 h2 => ?_
  simp [endTo]
theorem endTo_succ (q : List IT) (b u : Int) {k : Nat} (hk : k < (ordL q).length) : (endTo q b u k).set (ordL q)[k] (b + upD (sumTo q (k + 1)) u) = endTo q b u (k + 1) := by
  refine List.ext_getElem (by rw [List.length_set, endTo_len, endTo_len]) fun j h1 h2 => ?_
  have hj : j < q.length := by rw [endTo_len] at h2; exact h2
  rw [List.getElem_set]
  simp only [endTo, List.getElem_map, List.getElem_range]
  split
  · next e =>
    subst e
    rw [rank_at q hk, if_pos (by omega)]
  · next e =>
    have hne : rankTo q j q.length ≠ k := fun e2 => by
      obtain ⟨h3, h4⟩ := rank_pos q hj
      simp only [e2] at h4
      exact e h4
    by_cases h5 : rankTo q j q.length < k
    · rw [if_pos h5, if_pos (by omega)]
    · rw [if_neg h5, if_neg (by omega)]
theorem endTo_at (q : List IT) (b u : Int) {k n : Nat} (hk : k < (ordL q).length) (hn : k < n) (h : (ordL q)[k] < (endTo q b u n).length) : (endTo q b u n)[(ordL q)[k]] = b + upD (sumTo q (k + 1)) u := by
  simp only [endTo, List.getElem_map, List.getElem_range]
  rw [rank_at q hk, if_pos hn]
/-- The ends of all items. -/
def endL (q : List IT) (b u : Int) : List Int := endTo q b u q.length
theorem end_ok {s u n : Int} (hu : 1 ≤ u) (hn : n = upD s u) : ¬ n * u < s ∧ ¬ s ≤ (n - 1) * u := by
  have h1 := (up_le (n := s) (d := u) (m := n) (by omega)).1 (by omega)
  have h2 : ¬ upD s u ≤ n - 1 := by omega
  rw [up_le (by omega)] at h2
  omega
end Go.Proofs.Ytohdjhdkmdhhcaa
