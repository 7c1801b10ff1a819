/- Mathematics of plans: enough slots, a found plan is right, the greatest group. -/
import Derived.Test.YtmdmkmfemhkfgaaE38
set_option linter.unusedSimpArgs false
set_option linter.unusedVariables false
set_option linter.unusedSimpArgs false
set_option linter.unusedVariables false
namespace Go.Proofs.Ytmdmkmfemhkfgaa
open Go.RowKit
set_option maxRecDepth 100000

/-- What a search for slots needs: each further slot is one of the count, and not taken. -/
def Fits (l : List G) (count : Nat) (slots ext : List Int) : Prop :=
  ∀ i (h : i < ext.length), (∃ s : Nat, s < count ∧ ext[i] = (s : Int)) ∧ l.any (taken (slots ++ ext.take i) ext[i]) = false
theorem Fits.tail {l : List G} {count : Nat} {slots : List Int} {x : Int} {ext : List Int} (h : Fits l count slots (x :: ext)) : Fits l count (slots ++ [x]) ext := by
  intro i hi
  have := h (i + 1) (by simpa using hi)
  simpa [List.append_assoc] using this
theorem planF_of_fits (l : List G) (count : Nat) : ∀ (r : Nat) (slots ext : List Int), ext.length = r → Fits l count slots ext → planF l count r slots ≠ none
  | 0, _, _, _, _ => by simp [planF]
  | r + 1, slots, [], h, _ => by simp at h
  | r + 1, slots, x :: ext, h, hf => by
    have h0 := hf 0 (by simp)
    obtain ⟨⟨s, hs, hx⟩, ht⟩ := h0
    simp only [List.take_zero, List.append_nil, List.getElem_cons_zero] at hx ht
    have ih := planF_of_fits l count r (slots ++ [x]) ext (by simpa using h) hf.tail
    rw [planF_succ]
    intro hn
    rw [List.findSome?_eq_none_iff] at hn
    have := hn s (List.mem_range.2 hs)
    unfold tryF at this
    rw [← hx, ht] at this
    exact ih (by simpa using this)
theorem fits_of_planF (l : List G) (count : Nat) : ∀ (r : Nat) (slots out : List Int), planF l count r slots = some out → ∃ ext, ext.length = r ∧ out = slots ++ ext ∧ Fits l count slots ext
  | 0, slots, out, h => ⟨[], rfl, by simp [planF] at h; simp [h], fun i hi => by simp at hi⟩
  | r + 1, slots, out, h => by
    rw [planF_succ] at h
    obtain ⟨s, hs, hx⟩ := List.exists_of_findSome?_eq_some h
    rw [List.mem_range] at hs
    unfold tryF at hx
    cases ht : l.any (taken slots (s : Int))
    · rw [ht] at hx
      obtain ⟨ext, h1, h2, h3⟩ := fits_of_planF l count r (slots ++ [(s : Int)]) out (by simpa using hx)
      refine ⟨(s : Int) :: ext, by simp [h1], by simp [h2], fun i hi => ?_⟩
      cases i with
      | zero => exact ⟨⟨s, hs, rfl⟩, by simpa using ht⟩
      | succ i =>
        have := h3 i (by simpa using hi)
        simpa [List.append_assoc] using this
    · rw [ht] at hx; simp at hx
/-- A slot for each station is enough. -/
theorem planF_full (l : List G) (n : Nat) (hp : ∀ k (h : k < l.length), 0 ≤ l[k].1 ∧ l[k].1 < l[k].2) : planF l n n [] ≠ none := by
  refine planF_of_fits l n n [] ((List.range n).map fun (i : Nat) => (i : Int)) (by simp) fun i hi => ?_
  have hi' : i < n := by simpa using hi
  refine ⟨⟨i, hi', by simp⟩, ?_⟩
  rw [List.any_eq_false]
  intro p hm
  obtain ⟨k, hk, rfl⟩ := List.getElem_of_mem hm
  have h1 := hp k hk
  simp only [taken, List.nil_append, List.getElem_map, List.getElem_range, Bool.and_eq_true, beq_iff_eq, not_and, List.length_take, List.length_map, List.length_range]
  intro h2 h3
  have h4 : l[k].1.toNat < i := by omega
  rw [List.getD_eq_getElem?_getD, List.getElem?_take] at h3
  rw [if_pos h4] at h3
  simp [List.getElem?_map, List.getElem?_range (show l[k].1.toNat < n by omega)] at h3
  omega
theorem firstBad_zero {α : Type} (f : Nat → α → Int) (l : List α) (h : ∀ k (hk : k < l.length), f k l[k] = 0) : firstBadFrom f 0 l = (0, 0) := by
  refine firstBadFrom_none f l 0 fun i hi => by simpa using h i hi
/-- The slots of a found plan. -/
theorem plan_slot {l : List G} {count n : Nat} {out : List Int} (h : planF l count n [] = some out) : out.length = n ∧ ∀ i (hi : i < out.length), ∃ s : Nat, s < count ∧ out[i] = (s : Int) := by
  obtain ⟨ext, h1, h2, h3⟩ := fits_of_planF l count n [] out h
  rw [List.nil_append] at h2
  subst h2
  exact ⟨h1, fun i hi => (h3 i hi).1⟩
/-- Stations that disturb each other have slots of their own. -/
theorem plan_apart {l : List G} {count n : Nat} {out : List Int} (h : planF l count n [] = some out) {a b : Nat} (hab : a < b) (hb : b < n) (hm : ((a : Int), (b : Int)) ∈ l) : out.getD a 0 ≠ out.getD b 0 := by
  obtain ⟨ext, h1, h2, h3⟩ := fits_of_planF l count n [] out h
  rw [List.nil_append] at h2
  subst h2
  obtain ⟨_, ht⟩ := h3 b (by omega)
  rw [List.any_eq_false] at ht
  have := ht _ hm
  have hlen : (out.take b).length = b := by rw [List.length_take]; omega
  simp only [taken, List.nil_append, hlen, Bool.and_eq_true, beq_iff_eq, not_and, forall_const] at this
  intro e
  refine this ?_
  rw [show ((a : Int)).toNat = a by omega]
  rw [List.getD_eq_getElem?_getD, List.getElem?_take, if_pos hab, ← List.getD_eq_getElem?_getD, e, List.getD_eq_getElem?_getD, List.getElem?_eq_getElem (show b < out.length by omega)]
  rfl
/-- A found plan is right. -/
theorem plan_right {l : List G} {count n : Nat} {out : List Int} (he : (netE (n : Int) l).2 = 0) (hc : count ≤ n) (h : planF l count n [] = some out) : planE (n : Int) l out = (0, 0) := by
  have hN := netE_zero he
  have hn8 := hN.n1
  obtain ⟨h1, h2⟩ := plan_slot h
  unfold planE
  have e0 : planHead (n : Int) l out.length = 0 := by
    unfold planHead
    rw [he, h1]
    simp [firstE, errIf]
  have e1 : firstBadFrom (fun _ s => slotE s) 0 out = (0, 0) := by
    refine firstBad_zero _ _ fun k hk => ?_
    obtain ⟨s, hs, e⟩ := h2 k hk
    unfold slotE
    rw [outB_false.2 (show 0 ≤ out[k] ∧ out[k] ≤ 7 by omega)]
    rfl
  have e2 : firstBadFrom (fun _ p => clashE out p) 0 l = (0, 0) := by
    refine firstBad_zero _ _ fun k hk => ?_
    have h3 := hN.pair k hk
    have h4 := plan_apart h (a := l[k].1.toNat) (b := l[k].2.toNat) (by omega) (by omega) (by
      rw [show ((l[k].1.toNat : Nat) : Int) = l[k].1 by omega, show ((l[k].2.toNat : Nat) : Int) = l[k].2 by omega]
      exact List.getElem_mem hk)
    unfold clashE
    rw [show (out.getD l[k].1.toNat 0 == out.getD l[k].2.toNat 0) = false by simpa using h4]
    rfl
  rw [if_pos e0, e1, if_pos rfl, e2]
/-- Both searches name the same least number of slots, and the same plan. -/
theorem plan_same {n k : Nat} {l : List G} {v : Value} {w : World} (hp : ∀ k (h : k < l.length), 0 ≤ l[k].1 ∧ l[k].1 < l[k].2) (h : PlanAns n l k v w) :
    ∃ out g o c, planF l k n [] = some out ∧ v = .slice (some ⟨g, o, none⟩) n c ∧ Rd w (some ⟨g, o, none⟩) (ints out) ∧ out.length = n := by
  obtain ⟨h1, h2, h3, h4 | h4⟩ := h
  · obtain ⟨rfl, h5, _⟩ := h4
    exact absurd h5 (planF_full l k hp)
  · exact h4
theorem refPlan_same {n k : Nat} {l : List G} {v : Value} {w : World} (hp : ∀ k (h : k < l.length), 0 ≤ l[k].1 ∧ l[k].1 < l[k].2) (h : RefPlanAns n l k v w) :
    ∃ out A c, planF l k n [] = some out ∧ v = .slice A n c ∧ Rd w A (ints out) ∧ out.length = n := by
  obtain ⟨h1, h2, h3, h4 | h4⟩ := h
  · obtain ⟨rfl, h5, _⟩ := h4
    exact absurd h5 (planF_full l k hp)
  · exact h4
theorem plan_least {n k j : Nat} {l : List G} {v u : Value} {w w' : World} (hp : ∀ k (h : k < l.length), 0 ≤ l[k].1 ∧ l[k].1 < l[k].2) (h : PlanAns n l k v w) (h' : RefPlanAns n l j u w') : k = j := by
  obtain ⟨out, _, _, _, e, _⟩ := plan_same hp h
  obtain ⟨out', _, _, e', _⟩ := refPlan_same hp h'
  obtain ⟨h1, h2, h3, _⟩ := h
  obtain ⟨g1, g2, g3, _⟩ := h'
  by_cases c1 : k < j
  · have := g3 k h1 c1
    rw [this] at e; cases e
  · by_cases c2 : j < k
    · have := h3 j g1 c2
      rw [this] at e'; cases e'
    · omega
theorem nodup_small : ∀ (c : Nat) (l : List Nat), l.Nodup → (∀ x ∈ l, x < c) → l.length ≤ c
  | 0, l, _, h => by
    cases l with
    | nil => simp
    | cons x l => have := h x (by simp); omega
  | c + 1, l, hn, h => by
    by_cases hc : c ∈ l
    · have h1 := nodup_small c (l.erase c) (hn.erase c) fun x hx => by
        have h2 := (hn.mem_erase_iff).1 hx
        have := h x h2.2
        omega
      rw [List.length_erase_of_mem hc] at h1
      omega
    · have h1 := nodup_small c l hn fun x hx => by
        have h2 := h x hx
        have h3 : x ≠ c := fun e => hc (e ▸ hx)
        omega
      omega
/-- Stations of which each disturbs each other one. -/
structure Cl (l : List G) (n : Nat) (M : List Int) : Prop where
  mem : ∀ x ∈ M, 0 ≤ x ∧ x < (n : Int)
  pair : M.Pairwise (fun a b => (a, b) ∈ l)
/-- A plan has at least as many slots as a group has stations. -/
theorem plan_group {l : List G} {count n : Nat} {out M : List Int} (hp : ∀ k (h : k < l.length), 0 ≤ l[k].1 ∧ l[k].1 < l[k].2) (h : planF l count n [] = some out) (hM : Cl l n M) : M.length ≤ count := by
  obtain ⟨h1, h2⟩ := plan_slot h
  have h3 := nodup_small count (M.map fun x => (out.getD x.toNat 0).toNat) (by
    rw [List.Nodup, List.pairwise_map]
    refine hM.pair.imp_of_mem ?_
    intro a b ha hb hab
    have ga := hM.mem a ha
    have gb := hM.mem b hb
    obtain ⟨k, hk, e⟩ := List.getElem_of_mem hab
    have h4 := hp k hk
    rw [e] at h4
    dsimp only at h4
    have h5 := plan_apart h (a := a.toNat) (b := b.toNat) (by omega) (by omega) (by
      rw [show ((a.toNat : Nat) : Int) = a by omega, show ((b.toNat : Nat) : Int) = b by omega]
      exact hab)
    intro e6
    apply h5
    rw [List.getD_eq_getElem?_getD, List.getElem?_eq_getElem (show a.toNat < out.length by omega)] at e6 ⊢
    rw [List.getD_eq_getElem?_getD, List.getElem?_eq_getElem (show b.toNat < out.length by omega)] at e6 ⊢
    obtain ⟨s, _, es⟩ := h2 a.toNat (by omega)
    obtain ⟨t, _, et⟩ := h2 b.toNat (by omega)
    simp only [Option.getD_some] at e6 ⊢
    rw [es, et] at e6 ⊢
    omega) (by
    intro x hx
    rw [List.mem_map] at hx
    obtain ⟨a, ha, rfl⟩ := hx
    have ga := hM.mem a ha
    obtain ⟨s, hs, es⟩ := h2 a.toNat (by omega)
    rw [List.getD_eq_getElem?_getD, List.getElem?_eq_getElem (show a.toNat < out.length by omega)]
    simp only [Option.getD_some]
    rw [es]
    omega)
  simpa using h3
end Go.Proofs.Ytmdmkmfemhkfgaa
