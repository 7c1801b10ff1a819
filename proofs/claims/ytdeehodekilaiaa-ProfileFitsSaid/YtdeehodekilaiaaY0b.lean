/- The fitted profile agrees with each point. Plain data; no condition. -/
import Derived.Test.YtdeehodekilaiaaY0
import Derived.Test.YtdeehodekilaiaaY1
set_option linter.unusedSimpArgs false
set_option linter.unusedVariables false
namespace Go.Proofs.Ytdeehodekilaiaa

theorem fit_prefix {l : List PT} {N : Nat} (h : (fit l N).2.2 = 0) {j : Nat} (hj : j ≤ N) : (fit l j).2.2 = 0 ∧ ∃ t, (fit l N).1 = (fit l j).1 ++ t := by
  induction N with
  | zero =>
    have : j = 0 := by omega
    subst this
    exact ⟨h, [], by simp⟩
  | succ N ih =>
    rcases Nat.lt_or_ge j (N + 1) with h1 | h1
    · have hp : (fit l N).2.2 = 0 := by
        rw [fit] at h
        split at h
        · assumption
        · exact h
      have he : fitE l (fit l N).1 = 0 := by
        rw [fit, if_pos hp] at h
        split at h
        · assumption
        · rename_i h2; exact absurd h h2
      obtain ⟨a, t, ht⟩ := ih hp (by omega)
      refine ⟨a, t ++ [(pf l N * pf l N, fitT l (fit l N).1)], ?_⟩
      rw [fit_next hp he, ht, List.append_assoc]
    · have : j = N + 1 := by omega
      subst this
      exact ⟨h, [], by simp⟩
theorem fit_step {l : List PT} {k : Nat} (h : (fit l (k + 1)).2.2 = 0) : fitE l (fit l k).1 = 0 ∧ (fit l (k + 1)).1 = (fit l k).1 ++ [(pf l k * pf l k, fitT l (fit l k).1)] := by
  have hp : (fit l k).2.2 = 0 := by
    rw [fit] at h
    split at h
    · assumption
    · exact h
  have he : fitE l (fit l k).1 = 0 := by
    rw [fit, if_pos hp] at h
    split at h
    · assumption
    · rename_i h2; exact absurd h h2
  exact ⟨he, by rw [fit_next hp he]⟩
theorem fit_pro {l : List PT} {after width : Int} (h : Tr l after width) (h5 : plo l 0 ≤ 500) {N : Nat} (hN : N + 1 = l.length) (h0 : (fit l N).2.2 = 0) : Pro (plo l 0) ((fit l N).1 ++ [(pf l N * pf l N, 1)]) := by
  have hf := fit_ok h (k := N) (by omega)
  have hlen := fit_length h0
  have p0 := h.pt 0 (by omega)
  have n1 := h.n1
  have s2 := h.sqb (j := N) (by omega)
  refine ⟨by omega, by omega, by simp, by simp; omega, fun g hg => ?_⟩
  rcases List.mem_append.1 hg with hg | hg
  · obtain ⟨i, hi, rfl⟩ := List.getElem_of_mem hg
    have h1 := hf.sq i hi
    have h2 := hf.th i hi
    have h3 := h.sqb (j := i) (by omega)
    rw [getD_at hi] at h1 h2
    omega
  · simp only [List.mem_singleton] at hg
    subst hg
    dsimp only
    omega
theorem fit_sq {l : List PT} {after width : Int} (h : Tr l after width) {N : Nat} (hN : N + 1 = l.length) (h0 : (fit l N).2.2 = 0) {j : Nat} (hj : j ≤ N) : (((fit l N).1 ++ [(pf l N * pf l N, (1 : Int))]).getD j G0).1 = pf l j * pf l j := by
  have hf := fit_ok h (k := N) (by omega)
  have hlen := fit_length h0
  rcases Nat.lt_or_ge j N with h1 | h1
  · rw [List.getD, List.getElem?_append_left (by omega)]
    exact hf.sq j (by omega)
  · have : j = N := by omega
    subst this
    rw [List.getD, List.getElem?_append_right (by omega), hlen]
    simp
theorem fit_pass {l : List PT} {after width : Int} (h : Tr l after width) {N : Nat} (hN : N + 1 = l.length) (h0 : (fit l N).2.2 = 0) {k : Nat} (hk : k ≤ N) : passN ((fit l N).1 ++ [(pf l N * pf l N, (1 : Int))]) (pf l k) = k := by
  have hlen := fit_length h0
  refine passN_eq (by simp; omega) (fun j hj hlt => ?_) (fun hj => ?_)
  · rw [← getD_at hj G0, fit_sq h hN h0 (by omega)]
    exact h.sq hlt (by omega)
  · rw [← getD_at hj G0, fit_sq h hN h0 hk]
    exact Int.le_refl _
theorem fit_agr {l : List PT} {after width : Int} (h : Tr l after width) (h5 : plo l 0 ≤ 500) {N : Nat} (hN : N + 1 = l.length) (h0 : (fit l N).2.2 = 0) {k : Nat} (hk : k < l.length) : agr (plo l 0) ((fit l N).1 ++ [(pf l N * pf l N, (1 : Int))]) l[k] ≠ 0 := by
  have hlen := fit_length h0
  have hP := fit_pro h h5 hN h0
  have hps := fit_pass h hN h0 (k := k) (by omega)
  have hpt := h.pt k hk
  have hv : virtR (plo l 0) ((fit l N).1 ++ [(pf l N * pf l N, (1 : Int))]) (pf l k) = (virt (plo l 0) ((fit l N).1 ++ [(pf l N * pf l N, (1 : Int))]) (pf l k), 0) := by
    unfold virtR
    rw [hP.err, freqE_zero.2 ⟨hpt.1, hpt.2.1⟩, if_pos (by rfl), if_neg (by rw [hps]; simp; omega)]
  have hl : l[k] = (pf l k, plo l k, phi l k) := by unfold pf plo phi; rw [getD_at hk]
  rw [hl]
  unfold agr
  dsimp only
  rw [hv, if_pos rfl]
  dsimp only
  have key : ¬ ((virt (plo l 0) ((fit l N).1 ++ [(pf l N * pf l N, (1 : Int))]) (pf l k)).2 < plo l k ∨ phi l k < (virt (plo l 0) ((fit l N).1 ++ [(pf l N * pf l N, (1 : Int))]) (pf l k)).1) := by
    unfold virt
    rw [hps]
    cases k with
    | zero =>
      simp only [dly]
      have : up (1000 * plo l 0) 1000 = plo l 0 := by unfold up; omega
      rw [this]
      omega
    | succ k =>
      obtain ⟨hk1, t, ht⟩ := fit_prefix h0 (j := k + 1) (by omega)
      obtain ⟨hE, hfk⟩ := fit_step hk1
      have hk0 : (fit l k).2.2 = 0 := (fit_prefix hk1 (j := k) (by omega)).1
      have hlk := fit_length hk0
      have hlk1 := fit_length hk1
      have hd : dly (plo l 0) ((fit l N).1 ++ [(pf l N * pf l N, (1 : Int))]) (pf l (k + 1)) (k + 1) = ((dly (plo l 0) (fit l k).1 (pf l (k + 1)) k).1 + fitT l (fit l k).1 * (pI l k (k + 1)).1, (dly (plo l 0) (fit l k).1 (pf l (k + 1)) k).2 + fitT l (fit l k).1 * (pI l k (k + 1)).2) := by
        rw [ht, List.append_assoc, dly_app (by omega), hfk]
        show ((dly (plo l 0) ((fit l k).1 ++ [(pf l k * pf l k, fitT l (fit l k).1)]) (pf l (k + 1)) k).1 + (((fit l k).1 ++ [(pf l k * pf l k, fitT l (fit l k).1)]).getD k G0).2 * _, _) = _
        have e : ((fit l k).1 ++ [(pf l k * pf l k, fitT l (fit l k).1)]).getD k G0 = (pf l k * pf l k, fitT l (fit l k).1) := by
          rw [List.getD, List.getElem?_append_right (by omega), hlk]
          simp
        rw [dly_app (by omega), e]
        rfl
      have hT0 := fitT_nonneg h (acc := (fit l k).1) (by omega)
      have hlt := tryV_lt h (acc := (fit l k).1) (by omega) hT0
      have ht5 : ¬ 500 < fitT l (fit l k).1 := fun hx => by rw [fitE_many hx] at hE; exact absurd hE (by decide)
      have hhi : ¬ phi l ((fit l k).1.length + 1) < (tryV l (fit l k).1 (fitT l (fit l k).1)).1 := fun hx => by rw [fitE_none ht5 hx] at hE; exact absurd hE (by decide)
      unfold tryV at hlt hhi
      rw [hlk] at hlt hhi
      rw [hd]
      dsimp only at hlt hhi ⊢
      omega
  unfold agrV
  rw [if_neg key]
  split <;> decide
/-- What is fitted is a profile, and agrees with each point. -/
theorem fitRes_ok {l : List PT} {after width : Int} (h : Tr l after width) {b : Int} {L : List G} {i : Int} (hR : fitRes l width = (b, L, i, 0)) : Pro b L ∧ (0 : Int) ∉ l.map (agr b L) := by
  unfold fitRes at hR
  split at hR
  · simp at hR
  · split at hR
    · simp at hR
    · rename_i h5
      have hn0 := h.n0
      obtain ⟨N, hN⟩ : ∃ N, N + 1 = l.length := ⟨l.length - 1, by omega⟩
      rw [show l.length - 1 = N by omega] at hR
      split at hR
      · rename_i h0
        simp only [Prod.mk.injEq] at hR
        obtain ⟨rfl, rfl, _, _⟩ := hR
        refine ⟨fit_pro h (by omega) hN h0, fun hm => ?_⟩
        obtain ⟨pt, hpt, he⟩ := List.mem_map.1 hm
        obtain ⟨k, hk, rfl⟩ := List.getElem_of_mem hpt
        exact fit_agr h (by omega) hN h0 hk he
      · rename_i h0
        simp only [Prod.mk.injEq] at hR
        exact absurd hR.2.2.2 h0
end Go.Proofs.Ytdeehodekilaiaa
