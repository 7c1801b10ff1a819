/- Mathematics: sorting the indexes of a queue by insertion gives its order. Plain lemmas; no condition. -/
import Derived.Test.YtohdjhdkmdhhcaaE62
set_option linter.unusedSimpArgs false
set_option linter.unusedVariables false
set_option linter.unusedSimpArgs false
set_option linter.unusedVariables false
namespace Go.Proofs.Ytohdjhdkmdhhcaa
open Go.Sort

section
variable {n : Nat} (q : List IT)
def wkF (x y : Fin (n + 1)) : Bool := wkI q x.val y.val
def beF (x y : Fin (n + 1)) : Bool := befI q x.val y.val
theorem inner_eq : ∀ (j : Nat) (d : Array (Fin (n + 1))), j < d.size → (∀ p, p < j → d[p]!.val < d[j]!.val) → insInner (wkF q) 0 j d = insInner (beF q) 0 j d
  | 0, d, _, _ => by simp [insInner]
  | j + 1, d, hj, h => by
    have e : wkF q d[j + 1]! d[j]! = beF q d[j + 1]! d[j]! := (befI_wk q (h j (by omega))).symm
    unfold insInner
    rw [e]
    split
    · have g := swp_get d hj (show j < d.size by omega)
      exact inner_eq j _ (by rw [swp_size]; omega) (fun p hp => by
        rw [g, g, if_neg (by omega), if_neg (by omega), if_pos rfl]
        exact h p (by omega))
    · rfl
theorem inner_keep (lt : Fin (n + 1) → Fin (n + 1) → Bool) (c i : Nat) : ∀ (j : Nat) (d : Array (Fin (n + 1))), j ≤ i → i < d.size → (∀ p, p ≤ i → d[p]!.val < c) →
    (insInner lt 0 j d).size = d.size ∧ (∀ p, p ≤ i → (insInner lt 0 j d)[p]!.val < c) ∧ ∀ p, i < p → (insInner lt 0 j d)[p]! = d[p]!
  | 0, d, _, _, h => by simp only [insInner]; exact ⟨trivial, h, fun _ _ => trivial⟩
  | j + 1, d, hj, hi, h => by
    unfold insInner
    split
    · have g := swp_get d (show j + 1 < d.size by omega) (show j < d.size by omega)
      obtain ⟨h1, h2, h3⟩ := inner_keep lt c i j (swp d (j + 1) j) (by omega) (by rw [swp_size]; exact hi) (fun p hp => by
        rw [g]
        (repeat' split)
        · exact h _ (by omega)
        · exact h _ (by omega)
        · exact h _ hp)
      refine ⟨by rw [h1, swp_size], h2, fun p hp => ?_⟩
      rw [h3 p hp, g, if_neg (by omega), if_neg (by omega)]
    · exact ⟨rfl, h, fun _ _ => rfl⟩
theorem outer_eq : ∀ (k i : Nat) (d : Array (Fin (n + 1))), n + 1 - i = k → d.size = n + 1 → (∀ p, p < i → d[p]!.val < i) → (∀ p, i ≤ p → p < n + 1 → d[p]!.val = p) →
    insOuter (wkF q) 0 (n + 1) i d = insOuter (beF q) 0 (n + 1) i d
  | 0, i, d, hk, hs, _, _ => by
    rw [insOuter, if_neg (by omega), insOuter, if_neg (by omega)]
  | k + 1, i, d, hk, hs, h1, h2 => by
    rw [insOuter, if_pos (by omega)]
    conv => rhs; rw [insOuter, if_pos (show i < n + 1 by omega)]
    have hi := h2 i (Nat.le_refl _) (by omega)
    rw [inner_eq q i d (by omega) (fun p hp => by rw [hi]; exact h1 p hp)]
    obtain ⟨g1, g2, g3⟩ := inner_keep (beF q) (i + 1) i i d (Nat.le_refl _) (by omega) (fun p hp => by
      by_cases e : p = i
      · subst e; rw [hi]; omega
      · have := h1 p (by omega); omega)
    exact outer_eq k (i + 1) _ (by omega) (by rw [g1, hs]) (fun p hp => g2 p (by omega)) (fun p h3 h4 => by rw [g3 p (by omega)]; exact h2 p (by omega) h4)
end
theorem swo_be {n : Nat} (q : List IT) : SWO (beF (n := n) q) where
  irrefl x := befI_irrefl q x.val
  trans x y z h1 h2 := befI_trans q h1 h2
  ntrans x y z h1 h2 := by
    unfold beF at *
    cases e : befI q x.val z.val
    · rfl
    · by_cases e1 : x.val = y.val
      · rw [e1] at e; rw [e] at h2; cases h2
      · have := (befI_total q e1).resolve_left (by rw [h1]; simp)
        rw [befI_trans q this e] at h2
        cases h2
/-- The row of all indexes. -/
theorem ofFn_val (n : Nat) : (Array.ofFn (n := n) id).toList.map Fin.val = List.range n := by
  refine List.ext_getElem (by simp) fun j a b => ?_
  simp
def idxR (n : Nat) : Array (Fin (n + 1)) := Array.ofFn id
theorem idxR_size (n : Nat) : (idxR n).size = n + 1 := by simp [idxR]
theorem idxR_get {n p : Nat} (h : p < n + 1) : (idxR n)[p]!.val = p := by
  simp [idxR, getElem!_def, Array.getElem?_ofFn, h]
theorem ins_ord {n : Nat} (q : List IT) (hn : q.length = n + 1) : (Sort.insertionSort (wkF q) (idxR n) 0 (n + 1)).toList.map Fin.val = ordL q := by
  have e : Sort.insertionSort (wkF q) (idxR n) 0 (n + 1) = Sort.insertionSort (beF q) (idxR n) 0 (n + 1) :=
    outer_eq q _ 1 (idxR n) rfl (idxR_size n) (fun p hp => by rw [idxR_get (by omega)]; omega) (fun p _ hp => idxR_get hp)
  rw [e]
  obtain ⟨⟨h1, _, h2⟩, h3⟩ := insertionSort_holds (swo_be q) (idxR n) 0 (n + 1) (by omega) (by rw [idxR_size]; omega)
  generalize Sort.insertionSort (beF q) (idxR n) 0 (n + 1) = d at h1 h2 h3
  rw [idxR_size] at h1
  have ex : ∀ (a : Array (Fin (n + 1))) (m : Nat), a.size = m → a.extract 0 m = a := by rintro a m rfl; simp
  have x1 : d.extract 0 (n + 1) = d := ex d _ h1
  have x2 : (idxR n).extract 0 (n + 1) = idxR n := ex _ _ (idxR_size n)
  rw [x1, x2] at h2
  refine IsOrd.eq ⟨?_, ?_⟩
  · have h4 := h2.map Fin.val
    have h5 : (idxR n).toList.map Fin.val = List.range (n + 1) := ofFn_val (n + 1)
    rw [h5] at h4
    rw [hn]
    exact h4
  · rw [List.pairwise_map, List.pairwise_iff_getElem]
    intro i j hi hj hij
    have hi' : i < d.size := by simpa using hi
    have hj' : j < d.size := by simpa using hj
    have h4 := h3 i j (Nat.zero_le _) hij (by omega)
    rw [getElem!_pos d i hi', getElem!_pos d j hj'] at h4
    have hne : (d.toList[i]).val ≠ (d.toList[j]).val := by
      have hnd : (d.toList.map Fin.val).Nodup := by
        have h5 := h2.map Fin.val
        have h6 : (idxR n).toList.map Fin.val = List.range (n + 1) := ofFn_val (n + 1)
        rw [h6] at h5
        exact h5.nodup_iff.2 List.nodup_range
      intro e2
      have := (List.getElem_inj (xs := d.toList.map Fin.val) (i := i) (j := j) (h₀ := by simpa using hi) (h₁ := by simpa using hj) hnd).1 (by simpa using e2)
      omega
    exact (befI_total q hne).resolve_right (by
      simp only [beF] at h4
      simp only [Array.getElem_toList]
      rw [h4]; simp)
end Go.Proofs.Ytohdjhdkmdhhcaa
