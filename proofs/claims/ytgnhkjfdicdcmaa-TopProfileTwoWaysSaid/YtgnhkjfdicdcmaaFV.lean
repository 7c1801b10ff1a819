/- Traces that are cut, and traces that are moved. No condition. -/
import Derived.Test.YtgnhkjfdicdcmaaQB
namespace Go.Proofs.Ytgnhkjfdicdcmaa

theorem pf_take {l : List PT} {n j : Nat} (h : j < n) : pf (l.take n) j = pf l j ∧ plo (l.take n) j = plo l j ∧ phi (l.take n) j = phi l j := by
  have e : (l.take n).getD j P0 = l.getD j P0 := by rw [List.getD, List.getD, List.getElem?_take_of_lt h]
  unfold pf plo phi
  rw [e]
  exact ⟨rfl, rfl, rfl⟩
theorem pI_take {l : List PT} {n j k : Nat} (hj : j < n) (hk : k < n) : pI (l.take n) j k = pI l j k := by
  unfold Go.Proofs.Ytgnhkjfdicdcmaa.pI
  rw [(pf_take hj).1, (pf_take hk).1]
theorem lefts_take {l : List PT} {n k : Nat} (hk : k < n) (M : List G) (A : G) {j : Nat} (hj : j ≤ k) : lefts (l.take n) k M A j = lefts l k M A j := by
  induction j with
  | zero => rfl
  | succ j ih =>
    rw [lefts, lefts, ih (by omega), pI_take (by omega) hk]
theorem left_take {l : List PT} {after width : Int} (ha : 0 ≤ after) {n : Nat} {M : List G} (hM : M.length + 1 < n) : leftL (l.take n) (min after ((n : Int) - 1)) width M = leftL l after width M := by
  unfold leftL
  rw [lefts_take (by omega) M _ (by omega), (pf_take (l := l) (n := n) (j := M.length + 1) hM).2.1, (pf_take (l := l) (n := n) (j := M.length + 1) hM).2.2, (pf_take (l := l) (n := n) (j := 0) (by omega)).2.1, (pf_take (l := l) (n := n) (j := 0) (by omega)).2.2]
  by_cases h : after ≤ (M.length : Int)
  · have e : min after ((n : Int) - 1) = after := by omega
    rw [e, if_pos h, pI_take (by omega) hM]
    simp [h]
  · rw [if_neg h, if_neg (by omega)]
theorem slabOf_take {l : List PT} {after width : Int} (ha : 0 ≤ after) {n : Nat} {M : List G} (hM : M.length + 1 < n) : slabOf (l.take n) (min after ((n : Int) - 1)) width M = slabOf l after width M := by
  unfold slabOf
  rw [left_take ha hM, pI_take (by omega) hM]
/-- A trace that is cut has the lamination of the whole one, up to there. -/
theorem lam_cut {l : List PT} {after width : Int} (ha : 0 ≤ after) {n k : Nat} (hk : k + 1 ≤ n) : lam (l.take n) (min after ((n : Int) - 1)) width k = lam l after width k := by
  induction k with
  | zero => rfl
  | succ k ih =>
    have e := ih (by omega)
    rw [lam, lam, e]
    split
    · rename_i h0
      have hl := lam_length h0
      rw [left_take ha (by omega), slabOf_take ha (by omega)]
    · rfl

/-- A trace that is moved upwards. -/
def movedP (u : Int) (p : PT) : PT := (p.1, p.2.1 + u, p.2.2 + u)
def movedT (u : Int) (l : List PT) : List PT := l.map (movedP u)
@[simp] theorem movedT_length (u : Int) (l : List PT) : (movedT u l).length = l.length := by simp [movedT]
theorem pf_moved (u : Int) {l : List PT} {j : Nat} (h : j < l.length) : pf (movedT u l) j = pf l j ∧ plo (movedT u l) j = plo l j + u ∧ phi (movedT u l) j = phi l j + u := by
  have e : (movedT u l).getD j P0 = movedP u (l.getD j P0) := by rw [getD_at (by simpa using h), getD_at h]; simp [movedT]
  unfold pf plo phi
  rw [e]
  exact ⟨rfl, rfl, rfl⟩
theorem pI_moved (u : Int) {l : List PT} {j k : Nat} (hj : j < l.length) (hk : k < l.length) : pI (movedT u l) j k = pI l j k := by
  unfold Go.Proofs.Ytgnhkjfdicdcmaa.pI
  rw [(pf_moved u hj).1, (pf_moved u hk).1]
theorem lefts_moved (u : Int) {l : List PT} {k : Nat} (hk : k < l.length) (M : List G) (A : G) {j : Nat} (hj : j ≤ k) : lefts (movedT u l) k M A j = lefts l k M A j := by
  induction j with
  | zero => rfl
  | succ j ih =>
    rw [lefts, lefts, ih (by omega), pI_moved u (by omega) hk]
theorem left_moved (u : Int) {l : List PT} {after width : Int} (ha : 0 ≤ after) (h1 : after ≤ (l.length : Int) - 1) {M : List G} (hM : M.length + 1 < l.length) : leftL (movedT u l) after width M = leftL l after width M := by
  have e1 := pf_moved u (l := l) (j := M.length + 1) hM
  have e2 := pf_moved u (l := l) (j := 0) (by omega)
  unfold leftL
  rw [lefts_moved u (by omega) M _ (by omega), e1.2.1, e1.2.2, e2.2.1, e2.2.2, show plo l (M.length + 1) + u - (phi l 0 + u) = plo l (M.length + 1) - phi l 0 by omega, show phi l (M.length + 1) + u - (plo l 0 + u) = phi l (M.length + 1) - plo l 0 by omega, pI_moved u (by omega) hM]
theorem lam_moved (u : Int) {l : List PT} {after width : Int} (ha : 0 ≤ after) (h1 : after ≤ (l.length : Int) - 1) {k : Nat} (hk : k + 1 ≤ l.length) : lam (movedT u l) after width k = lam l after width k := by
  induction k with
  | zero => rfl
  | succ k ih =>
    have e := ih (by omega)
    rw [lam, lam, e]
    split
    · rename_i h0
      have hl := lam_length h0
      have e2 : slabOf (movedT u l) after width (lam l after width k).1 = slabOf l after width (lam l after width k).1 := by
        unfold slabOf
        rw [left_moved u ha h1 (by omega), pI_moved u (by omega) (by omega)]
      rw [left_moved u ha h1 (by omega), e2]
    · rfl
theorem htL_moved (u : Int) {l : List PT} {after width : Int} (h : 0 < l.length) (L : List G) (k : Nat) : htL (movedT u l) after width L k = ((htL l after width L k).1 + u, (htL l after width L k).2 + u) := by
  have e := pf_moved u h
  unfold htL
  rw [e.2.1, e.2.2]
  simp only [Prod.mk.injEq]
  constructor
  · omega
  · split <;> omega
/-- What stays valid. -/
theorem Tr.cut {l : List PT} {after width : Int} (h : Tr l after width) {n : Nat} (h0 : 1 ≤ n) (hn : n ≤ l.length) : Tr (l.take n) (min after ((n : Int) - 1)) width := by
  have a0 := h.a0
  have n1 := h.n1
  have e : (l.take n).length = n := by simp; omega
  refine ⟨by omega, by omega, h.w0, h.w1, by omega, by omega, fun k hk => ?_, fun k hk => ?_⟩
  · rw [(pf_take (l := l) (n := n) (j := k) (by omega)).1, (pf_take (l := l) (n := n) (j := k) (by omega)).2.1, (pf_take (l := l) (n := n) (j := k) (by omega)).2.2]
    exact h.pt k (by omega)
  · rw [(pf_take (l := l) (n := n) (j := k) (by omega)).1, (pf_take (l := l) (n := n) (j := k + 1) (by omega)).1]
    exact h.up k (by omega)
/-- Where a contradiction stands. -/
theorem lam_idx {l : List PT} {after width : Int} {k : Nat} (h : (lam l after width k).2 ≠ 0) : (lam l after width k).2 ≤ k ∧ (lam l after width (lam l after width k).2).2 ≠ 0 := by
  induction k with
  | zero => exact absurd rfl h
  | succ k ih =>
    by_cases h0 : (lam l after width k).2 = 0
    · have e : lam l after width (k + 1) = if (leftL l after width (lam l after width k).1).2 < 0 then ([], k + 1) else ((lam l after width k).1 ++ [slabOf l after width (lam l after width k).1], 0) := by rw [lam, if_pos h0]
      by_cases h1 : (leftL l after width (lam l after width k).1).2 < 0
      · rw [if_pos h1] at e
        have e2 : (lam l after width (k + 1)).2 = k + 1 := by rw [e]
        rw [e2]
        exact ⟨Nat.le_refl _, by rw [e2]; omega⟩
      · rw [if_neg h1] at e
        rw [e] at h
        exact absurd rfl h
    · have e : lam l after width (k + 1) = lam l after width k := by rw [lam, if_neg h0]
      rw [e]
      have := ih h0
      exact ⟨by omega, this.2⟩
theorem lam_after {l : List PT} {after width : Int} {j k : Nat} (h0 : (lam l after width j).2 = 0) (h : (lam l after width k).2 ≠ 0) : j < (lam l after width k).2 := by
  have h1 := lam_idx h
  rcases Nat.lt_or_ge j (lam l after width k).2 with h2 | h2
  · exact h2
  · exact absurd (lam_prev h0 h2) h1.2
theorem lam_take {l : List PT} {after width : Int} {j k : Nat} (h : (lam l after width k).2 = 0) (hj : j ≤ k) : (lam l after width k).1.take j = (lam l after width j).1 := by
  induction k with
  | zero =>
    have : j = 0 := by omega
    subst this
    rfl
  | succ k ih =>
    rcases Nat.lt_or_ge k j with h1 | h1
    · have : j = k + 1 := by omega
      subst this
      rw [List.take_of_length_le (by rw [lam_length h]; exact Nat.le_refl _)]
    · have h0 := lam_prev h (show k ≤ k + 1 by omega)
      have e : lam l after width (k + 1) = if (leftL l after width (lam l after width k).1).2 < 0 then ([], k + 1) else ((lam l after width k).1 ++ [slabOf l after width (lam l after width k).1], 0) := by rw [lam, if_pos h0]
      by_cases h2 : (leftL l after width (lam l after width k).1).2 < 0
      · rw [if_pos h2] at e
        rw [e] at h
        exact absurd h (by simp)
      · rw [if_neg h2] at e
        rw [e]
        have hl := lam_length h0
        dsimp only
        rw [List.take_append_of_le_length (by omega)]
        exact ih h0 h1
/-- A trace of which the first points are moved. -/
def mixT (u : Int) (l : List PT) (k : Nat) : List PT := (movedT u l).take k ++ l.drop k
@[simp] theorem mixT_length (u : Int) (l : List PT) (k : Nat) : (mixT u l k).length = l.length := by simp [mixT]; omega
theorem mixT_zero (u : Int) (l : List PT) : mixT u l 0 = l := by simp [mixT]
theorem mixT_all (u : Int) (l : List PT) : mixT u l l.length = movedT u l := by simp [mixT, List.take_of_length_le]
theorem mixT_get (u : Int) {l : List PT} {k : Nat} (hk : k ≤ l.length) (i : Nat) : (mixT u l k)[i]? = if i < k then l[i]?.map (movedP u) else l[i]? := by
  unfold mixT
  have e : (List.take k (movedT u l)).length = k := by simp; omega
  rw [List.getElem?_append, e]
  split
  · rename_i h
    rw [List.getElem?_take_of_lt h]
    simp [movedT]
  · rename_i h
    rw [List.getElem?_drop]
    congr 1
    omega
theorem mixT_at (u : Int) {l : List PT} {k : Nat} (hk : k < l.length) (h : k < (mixT u l k).length) : (mixT u l k)[k] = l[k] := by
  have e := mixT_get u (l := l) (k := k) (by omega) k
  rw [if_neg (by omega), List.getElem?_eq_getElem h, List.getElem?_eq_getElem hk] at e
  exact Option.some.inj e
theorem mixT_step (u : Int) {l : List PT} {k : Nat} (hk : k < l.length) : mixT u l (k + 1) = (mixT u l k).set k (movedP u l[k]) := by
  refine List.ext_getElem? fun i => ?_
  rw [mixT_get u (by omega), List.getElem?_set, mixT_get u (by omega), mixT_length]
  by_cases e : k = i
  · subst e
    rw [if_pos (by omega), if_pos rfl, if_pos hk, List.getElem?_eq_getElem hk]
    rfl
  · rw [if_neg e]
    by_cases h : i < k
    · rw [if_pos (by omega), if_pos h]
    · rw [if_neg (by omega), if_neg h]
/-- The ends of ranges in their order. -/
def Ord (M : List G) : Prop := ∀ j, (M.getD j G0).1 ≤ (M.getD j G0).2
theorem lefts_ord {l : List PT} {after width : Int} (h : Tr l after width) {M : List G} (hT : Thick M) (hO : Ord M) {A : G} (hA : A.1 ≤ A.2) {j k : Nat} (hjk : j ≤ k) (hk : k < l.length) : (lefts l k M A j).1 ≤ (lefts l k M A j).2 := by
  induction j with
  | zero => exact hA
  | succ j ih =>
    have h1 := ih (by omega)
    have h2 := hO j
    have h3 := hT.at j
    obtain ⟨p1, p2, p3, p4⟩ := h.pI (j := j) (k := k) (by omega) hk
    have h4 := Int.mul_le_mul h2 p2 (by omega) (by omega)
    simp only [lefts]
    omega
theorem left_ord {l : List PT} {after width : Int} (h : Tr l after width) {M : List G} (hT : Thick M) (hO : Ord M) (hk : M.length + 1 < l.length) : (leftL l after width M).1 ≤ (leftL l after width M).2 := by
  have h0 := h.pt 0 (by omega)
  have h1 := h.pt (M.length + 1) hk
  have h2 := lefts_ord h hT hO (A := (1000 * (plo l (M.length + 1) - phi l 0), 1000 * (phi l (M.length + 1) - plo l 0))) (by dsimp only; omega) (j := M.length) (k := M.length + 1) (by omega) hk
  unfold leftL
  dsimp only
  split
  · have := valley_bd h hk (by omega)
    omega
  · omega
theorem slab_ord {l : List PT} {after width : Int} (h : Tr l after width) {M : List G} (hT : Thick M) (hO : Ord M) (hk : M.length + 1 < l.length) (h0 : 0 ≤ (leftL l after width M).2) : (slabOf l after width M).1 ≤ (slabOf l after width M).2 := by
  have h1 := left_ord h hT hO hk
  obtain ⟨p1, p2, p3, p4⟩ := h.pI (j := M.length) (k := M.length + 1) (by omega) hk
  unfold slabOf
  generalize (leftL l after width M).1 = a at *
  generalize (leftL l after width M).2 = b at *
  generalize (pI l M.length (M.length + 1)).1 = x at *
  generalize (pI l M.length (M.length + 1)).2 = y at *
  have hm : max 0 a ≤ b := by omega
  have hm0 : 0 ≤ max 0 a := by omega
  have h2 : max 0 a / y ≤ max 0 a / x := by
    have q0 : 0 ≤ max 0 a / y := Int.ediv_nonneg hm0 (by omega)
    have q1 := Int.ediv_mul_le (max 0 a) (show y ≠ 0 by omega)
    have q2 := Int.mul_le_mul_of_nonneg_left p2 q0
    exact Int.le_ediv_of_mul_le (by omega) (by omega)
  have h3 : max 0 a / x ≤ b / x := Int.ediv_le_ediv (by omega) hm
  have h4 : b / x ≤ up b x := by unfold up; exact Int.ediv_le_ediv (by omega) (by omega)
  dsimp only
  omega
theorem lam_ord {l : List PT} {after width : Int} (h : Tr l after width) {k : Nat} (hk : k < l.length) : Ord (lam l after width k).1 := by
  induction k with
  | zero => intro j; simp [lam, G0]
  | succ k ih =>
    have hO := ih (by omega)
    have hT := lam_thick h (k := k) (by omega)
    by_cases h0 : (lam l after width k).2 = 0
    · have hl := lam_length h0
      rw [lam, if_pos h0]
      split
      · intro j; simp [G0]
      · rename_i h1
        intro j
        dsimp only
        rcases Nat.lt_trichotomy j k with h2 | h2 | h2
        · have := hO j
          rw [List.getD, List.getElem?_append_left (by omega)]
          exact this
        · subst h2
          have := slab_ord h hT hO (by omega) (by omega)
          rw [List.getD, List.getElem?_append_right (by omega), hl]
          simpa using this
        · rw [List.getD, List.getElem?_eq_none (by simp; omega)]
          simp [G0]
    · rw [lam, if_neg h0]
      exact hO
theorem htL_ord {l : List PT} {after width : Int} (h : Tr l after width) {M : List G} (hO : Ord M) (k : Nat) : (htL l after width M k).1 ≤ (htL l after width M k).2 := by
  have h0 := h.pt 0 (by have := h.n0; omega)
  have hw := h.w0
  have hs : (sums M k).1 ≤ (sums M k).2 := by
    induction k with
    | zero => simp [sums]
    | succ k ih => have := hO k; simp only [sums]; omega
  unfold htL
  dsimp only
  split <;> omega
end Go.Proofs.Ytgnhkjfdicdcmaa
