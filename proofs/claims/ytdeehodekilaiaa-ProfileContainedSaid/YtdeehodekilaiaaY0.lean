/- A fit by trying thicknesses one by one, as plain data. No condition. -/
import Derived.Test.YtdeehodekilaiaaQB
set_option linter.unusedSimpArgs false
set_option linter.unusedVariables false
namespace Go.Proofs.Ytdeehodekilaiaa

theorem dly_app {base : Int} {a b : List G} {f : Int} {n : Nat} (h : n ≤ a.length) : dly base (a ++ b) f n = dly base a f n := by
  induction n with
  | zero => rfl
  | succ n ih =>
    have := ih (by omega)
    have e : (a ++ b).getD n G0 = a.getD n G0 := by rw [List.getD, List.getD, List.getElem?_append_left (by omega)]
    unfold dly
    rw [this, e]
/-- The slabs acc, one more of the thickness d, and one that reflects the next point. -/
def tryL (l : List PT) (acc : List G) (d : Int) : List G := (acc ++ [(pf l acc.length * pf l acc.length, d)]) ++ [(pf l (acc.length + 1) * pf l (acc.length + 1), 1)]
@[simp] theorem tryL_length (l : List PT) (acc : List G) (d : Int) : (tryL l acc d).length = acc.length + 2 := by simp [tryL]
/-- The virtual height of the next point with the thickness d. -/
def tryV (l : List PT) (acc : List G) (d : Int) : G :=
  (((dly (plo l 0) acc (pf l (acc.length + 1)) acc.length).1 + d * (pI l acc.length (acc.length + 1)).1) / 1000, up ((dly (plo l 0) acc (pf l (acc.length + 1)) acc.length).2 + d * (pI l acc.length (acc.length + 1)).2) 1000)
theorem tryL_pro {l : List PT} {after width : Int} (h : Tr l after width) (h5 : plo l 0 ≤ 500) {acc : List G} (hf : FitOk l acc) (hk : acc.length + 1 < l.length) {d : Int} (d0 : 0 ≤ d) (d1 : d ≤ 500) : Pro (plo l 0) (tryL l acc d) := by
  have p0 := h.pt 0 (by omega)
  have n1 := h.n1
  have s1 := h.sqb (j := acc.length) (by omega)
  have s2 := h.sqb (j := acc.length + 1) hk
  refine ⟨by omega, by omega, by simp, by simp; omega, fun g hg => ?_⟩
  unfold tryL at hg
  rcases List.mem_append.1 hg with hg | hg
  · rcases List.mem_append.1 hg with hg | hg
    · obtain ⟨i, hi, rfl⟩ := List.getElem_of_mem hg
      have h1 := hf.sq i hi
      have h2 := hf.th i hi
      have h3 := h.sqb (j := i) (by omega)
      rw [getD_at hi] at h1 h2
      omega
    · simp only [List.mem_singleton] at hg
      subst hg
      dsimp only
      omega
  · simp only [List.mem_singleton] at hg
    subst hg
    dsimp only
    omega
theorem tryL_at {l : List PT} {acc : List G} {d : Int} {j : Nat} (hj : j < acc.length) : (tryL l acc d).getD j G0 = acc.getD j G0 := by
  unfold tryL
  rw [List.getD, List.getD, List.getElem?_append_left (by simp; omega), List.getElem?_append_left hj]
theorem tryL_mid {l : List PT} {acc : List G} {d : Int} : (tryL l acc d).getD acc.length G0 = (pf l acc.length * pf l acc.length, d) := by
  unfold tryL
  rw [List.getD, List.getElem?_append_left (by simp), List.getElem?_append_right (Nat.le_refl _)]
  simp
theorem tryL_top {l : List PT} {acc : List G} {d : Int} : (tryL l acc d).getD (acc.length + 1) G0 = (pf l (acc.length + 1) * pf l (acc.length + 1), 1) := by
  unfold tryL
  rw [List.getD, List.getElem?_append_right (by simp)]
  simp
theorem tryL_pass {l : List PT} {after width : Int} (h : Tr l after width) {acc : List G} (hf : FitOk l acc) (hk : acc.length + 1 < l.length) (d : Int) : passN (tryL l acc d) (pf l (acc.length + 1)) = acc.length + 1 := by
  refine passN_eq (by simp) (fun j hj hlt => ?_) (fun hj => ?_)
  · rw [← getD_at hj G0]
    rcases Nat.lt_or_ge j acc.length with h1 | h1
    · rw [tryL_at h1, hf.sq j h1]
      exact h.sq (by omega) hk
    · have : j = acc.length := by omega
      subst this
      rw [tryL_mid]
      exact h.sq (by omega) hk
  · rw [← getD_at hj G0, tryL_top]
    exact Int.le_refl _
theorem tryL_virt {l : List PT} {after width : Int} (h : Tr l after width) {acc : List G} (hf : FitOk l acc) (hk : acc.length + 1 < l.length) (d : Int) : virt (plo l 0) (tryL l acc d) (pf l (acc.length + 1)) = tryV l acc d := by
  unfold virt
  rw [tryL_pass h hf hk d]
  have e : dly (plo l 0) (tryL l acc d) (pf l (acc.length + 1)) acc.length = dly (plo l 0) acc (pf l (acc.length + 1)) acc.length := by
    unfold tryL
    rw [List.append_assoc]
    exact dly_app (Nat.le_refl _)
  have s : dly (plo l 0) (tryL l acc d) (pf l (acc.length + 1)) (acc.length + 1) = ((dly (plo l 0) acc (pf l (acc.length + 1)) acc.length).1 + d * (pI l acc.length (acc.length + 1)).1, (dly (plo l 0) acc (pf l (acc.length + 1)) acc.length).2 + d * (pI l acc.length (acc.length + 1)).2) := by
    show ((dly (plo l 0) (tryL l acc d) (pf l (acc.length + 1)) acc.length).1 + ((tryL l acc d).getD acc.length G0).2 * _, _) = _
    rw [e, tryL_mid]
    rfl
  rw [s]
  rfl
/-- As long as the thickness is less than the fitted one the point is not reached. -/
theorem tryV_lt {l : List PT} {after width : Int} (h : Tr l after width) {acc : List G} (hk : acc.length + 1 < l.length) {d : Int} (d0 : 0 ≤ d) : (tryV l acc d).2 < plo l (acc.length + 1) ↔ d < fitT l acc := by
  obtain ⟨i1, i2, i3, i4⟩ := h.pI (j := acc.length) (k := acc.length + 1) (by omega) hk
  unfold tryV fitT
  dsimp only
  generalize (dly (plo l 0) acc (pf l (acc.length + 1)) acc.length).2 = B
  generalize plo l (acc.length + 1) = P
  rw [lt_up (by omega)]
  have h1 : up (B + d * (pI l acc.length (acc.length + 1)).2) 1000 < P ↔ up (B + d * (pI l acc.length (acc.length + 1)).2) 1000 ≤ P - 1 := by omega
  rw [h1, up_le (by omega)]
  have h2 : 0 ≤ d * (pI l acc.length (acc.length + 1)).2 := Int.mul_nonneg d0 (by omega)
  generalize d * (pI l acc.length (acc.length + 1)).2 = X at h2
  omega
theorem fitE_many {l : List PT} {acc : List G} (h : 500 < fitT l acc) : fitE l acc = 22 := by unfold fitE; simp [firstE, errIf, h]
theorem fitE_none {l : List PT} {acc : List G} (h : ¬ 500 < fitT l acc) (h2 : phi l (acc.length + 1) < (tryV l acc (fitT l acc)).1) : fitE l acc = 12 := by
  unfold tryV at h2
  unfold fitE
  simp [firstE, errIf, h, h2]
theorem fitE_ok {l : List PT} {acc : List G} (h : ¬ 500 < fitT l acc) (h2 : ¬ phi l (acc.length + 1) < (tryV l acc (fitT l acc)).1) : fitE l acc = 0 := by
  unfold tryV at h2
  unfold fitE
  simp only [firstE, errIf, decide_eq_false h, decide_eq_false h2]
  rfl
theorem fit_next {l : List PT} {k : Nat} (h : (fit l k).2.2 = 0) (h2 : fitE l (fit l k).1 = 0) : fit l (k + 1) = ((fit l k).1 ++ [(pf l k * pf l k, fitT l (fit l k).1)], 0, 0) := by rw [fit, if_pos h, if_pos h2]
theorem fit_stop {l : List PT} {k : Nat} (h : (fit l k).2.2 = 0) {e : Int} (h2 : fitE l (fit l k).1 = e) (he : e ≠ 0) : fit l (k + 1) = ([], k + 1, e) := by rw [fit, if_pos h, if_neg (by rw [h2]; exact he), h2]

/-- What a fit answers: base, slabs, the index and the error. -/
def fitRes (l : List PT) (width : Int) : Int × List G × Int × Int :=
  if 0 < width then (0, [], 0, 15) else if 500 < plo l 0 then (0, [], 0, 22) else
    if (fit l (l.length - 1)).2.2 = 0 then (plo l 0, (fit l (l.length - 1)).1 ++ [(pf l (l.length - 1) * pf l (l.length - 1), 1)], 0, 0) else (0, [], (fit l (l.length - 1)).2.1, (fit l (l.length - 1)).2.2)
end Go.Proofs.Ytdeehodekilaiaa
