/- Mathematics: a queue after an item was put into it. Plain lemmas; no condition. -/
import Derived.Test.YtohdjhdkmdhhcaaE73
set_option linter.unusedSimpArgs false
set_option linter.unusedVariables false
set_option linter.unusedSimpArgs false
set_option linter.unusedVariables false
namespace Go.Proofs.Ytohdjhdkmdhhcaa

def sizeL (q : List IT) : Int := (q.map fun x => x.2.2.1).sum
theorem sizeL_take (q : List IT) {k : Nat} (h : k < q.length) : sizeL (q.take (k + 1)) = sizeL (q.take k) + q[k].2.2.1 := by
  unfold sizeL
  rw [List.take_succ_eq_append_getElem h, List.map_append, List.sum_append]
  simp
/-- All sizes are small. -/
def SmallS (q : List IT) : Prop := ∀ x ∈ q, 1 ≤ x.2.2.1 ∧ x.2.2.1 ≤ 10000
theorem sizeL_bd {q : List IT} (h : SmallS q) : (q.length : Int) ≤ sizeL q ∧ sizeL q ≤ 10000 * q.length := by
  induction q with
  | nil => simp [sizeL]
  | cons x q ih =>
    have h1 := ih fun y hy => h y (List.mem_cons_of_mem _ hy)
    have h2 := h x List.mem_cons_self
    simp only [sizeL, List.map_cons, List.sum_cons, List.length_cons] at h1 ⊢
    omega
theorem SmallS.take {q : List IT} (h : SmallS q) (k : Nat) : SmallS (q.take k) := fun x hx => h x (List.mem_of_mem_take hx)
/-- The index of the item that goes last. -/
def lastO (q : List IT) : Nat := (ordL q).getLastD 0
theorem lastO_at {q : List IT} (h : 0 < q.length) : ∃ h2 : q.length - 1 < (ordL q).length, (ordL q)[q.length - 1] = lastO q ∧ lastO q < q.length := by
  have hl := ordL_len q
  refine ⟨by omega, ?_⟩
  have hne : ordL q ≠ [] := fun e => by rw [e] at hl; simp at hl; omega
  have e1 : lastO q = (ordL q).getLast hne := by
    unfold lastO
    rw [List.getLastD_eq_getLast?, List.getLast?_eq_some_getLast hne]
    rfl
  have e2 : (ordL q)[q.length - 1]'(by omega) = lastO q := by
    rw [e1, List.getLast_eq_getElem]
    congr 1
    omega
  exact ⟨e2, by rw [← e2]; exact (ordL_mem q).1 (List.getElem_mem _)⟩
theorem lastO_last {q : List IT} {i : Nat} (hi : i < q.length) (hne : i ≠ lastO q) : befI q i (lastO q) = true := by
  obtain ⟨h2, e, hlt⟩ := lastO_at (q := q) (by omega)
  obtain ⟨hp, he⟩ := rank_pos q hi
  have hs := (ordL_ok q).sorted
  rw [List.pairwise_iff_getElem] at hs
  have hr : rankTo q i q.length ≠ q.length - 1 := fun e2 => by
    simp only [e2] at he
    rw [e] at he
    exact hne he.symm
  have hl := ordL_len q
  have := hs (rankTo q i q.length) (q.length - 1) hp (by omega) (by omega)
  rwa [he, e] at this
/-- Items dropped one by one, the last one first. -/
def dropF (cap : Int) : Nat → List IT → List ByteArray → List IT × List ByteArray
  | 0, q, n => (q, n)
  | f + 1, q, n => if cap < sizeL q then dropF cap f (q.eraseIdx (lastO q)) (n ++ [(q.getD (lastO q) it0).1]) else (q, n)
def putL (q : List IT) (x : IT) (cap : Int) : List IT × List ByteArray := dropF cap (q.length + 1) (q ++ [x]) []
theorem dropF_stop {cap : Int} {q : List IT} {n : List ByteArray} (f : Nat) (h : ¬ cap < sizeL q) : dropF cap f q n = (q, n) := by
  cases f with
  | zero => rfl
  | succ f => rw [dropF, if_neg h]
theorem dropF_go {cap : Int} {q : List IT} {n : List ByteArray} (h0 : 0 ≤ cap) (h : cap < sizeL q) : 0 < q.length ∧ dropF cap q.length q n = dropF cap (q.eraseIdx (lastO q)).length (q.eraseIdx (lastO q)) (n ++ [(q.getD (lastO q) it0).1]) := by
  have hp : 0 < q.length := by
    rcases Nat.eq_zero_or_pos q.length with e | e
    · rw [List.eq_nil_of_length_eq_zero e] at h
      simp [sizeL] at h
      omega
    · exact e
  refine ⟨hp, ?_⟩
  obtain ⟨_, _, hlt⟩ := lastO_at hp
  have e : (q.eraseIdx (lastO q)).length = q.length - 1 := List.length_eraseIdx_of_lt hlt
  obtain ⟨m, hm⟩ : ∃ m, q.length = m + 1 := ⟨q.length - 1, by omega⟩
  rw [e, hm, dropF, if_pos h]
  rfl
/-- d would go before a. -/
def betterI (d a : IT) : Prop := a.2.1 < d.2.1 ∨ a.2.1 = d.2.1 ∧ d.2.2.2 < a.2.2.2
theorem last_worse {q : List IT} (hp : 0 < q.length) (hlt : lastO q < q.length) : ∀ a ∈ q.eraseIdx (lastO q), ¬ betterI q[lastO q] a := by
  intro a ha
  obtain ⟨i, hi, hne, rfl⟩ : ∃ i, ∃ hi : i < q.length, i ≠ lastO q ∧ q[i] = a := by
    rw [List.mem_eraseIdx_iff_getElem] at ha
    obtain ⟨i, hi, hne, e⟩ := ha
    exact ⟨i, hi, hne, e⟩
  have h := lastO_last hi hne
  unfold befI at h
  rw [itP_at hi, itP_at hlt, itT_at hi, itT_at hlt] at h
  unfold betterI
  split at h
  · split at h
    · simp only [decide_eq_true_eq] at h; omega
    · simp only [decide_eq_true_eq] at h; omega
  · simp only [decide_eq_true_eq] at h; omega
theorem erase_perm {q : List IT} {i : Nat} (hi : i < q.length) : (q.eraseIdx i ++ [q[i]]).Perm q := by
  rw [List.eraseIdx_eq_take_drop_succ]
  have e : q = q.take i ++ q[i] :: q.drop (i + 1) := by rw [List.getElem_cons_drop, List.take_append_drop]
  conv => rhs; rw [e]
  rw [List.append_assoc]
  exact List.Perm.append_left _ List.perm_append_comm
structure PutI (all q D : List IT) : Prop where
  perm : (q ++ D).Perm all
  worse : ∀ d ∈ D, ∀ a ∈ q, ¬ betterI d a
theorem PutI.step {all q D : List IT} (h : PutI all q D) (hp : 0 < q.length) (hlt : lastO q < q.length) : PutI all (q.eraseIdx (lastO q)) (D ++ [q[lastO q]]) := by
  refine ⟨?_, fun d hd a ha => ?_⟩
  · have h1 : (q.eraseIdx (lastO q) ++ [q[lastO q]] ++ D).Perm (q ++ D) := (erase_perm hlt).append_right D
    refine List.Perm.trans ?_ (h1.trans h.perm)
    rw [List.append_assoc]
    exact List.Perm.append_left _ List.perm_append_comm
  · rcases List.mem_append.1 hd with hd | hd
    · exact h.worse d hd a ((List.eraseIdx_sublist q (lastO q)).mem ha)
    · rw [List.mem_singleton] at hd
      subst hd
      exact last_worse hp hlt a ha
theorem dropF_inv {cap : Int} (h0 : 0 ≤ cap) {all : List IT} : ∀ (f : Nat) (q D : List IT), q.length ≤ f → PutI all q D → ∃ D', (dropF cap f q (D.map (·.1))).2 = D'.map (·.1) ∧ PutI all (dropF cap f q (D.map (·.1))).1 D' ∧ sizeL (dropF cap f q (D.map (·.1))).1 ≤ cap
  | 0, q, D, hf, h => by
    have e : q = [] := List.eq_nil_of_length_eq_zero (by omega)
    refine ⟨D, rfl, h, ?_⟩
    simp only [dropF, e]
    simpa [sizeL] using h0
  | f + 1, q, D, hf, h => by
    by_cases hc : cap < sizeL q
    · obtain ⟨hp, _⟩ := dropF_go (n := []) h0 hc
      obtain ⟨_, _, hlt⟩ := lastO_at hp
      have e : (q.eraseIdx (lastO q)).length = q.length - 1 := List.length_eraseIdx_of_lt hlt
      have ih := dropF_inv h0 f (q.eraseIdx (lastO q)) (D ++ [q[lastO q]]) (by omega) (h.step hp hlt)
      rw [List.map_append, List.map_singleton] at ih
      rw [dropF, if_pos hc, show (q.getD (lastO q) it0).1 = q[lastO q].1 by rw [List.getD, List.getElem?_eq_getElem hlt]; rfl]
      exact ih
    · rw [dropF, if_neg hc]
      exact ⟨D, rfl, h, by show sizeL q ≤ cap; omega⟩
theorem putL_inv {q : List IT} {x : IT} {cap : Int} (h0 : 0 ≤ cap) : ∃ D, (putL q x cap).2 = D.map (·.1) ∧ PutI (q ++ [x]) (putL q x cap).1 D ∧ sizeL (putL q x cap).1 ≤ cap :=
  dropF_inv h0 (q.length + 1) (q ++ [x]) [] (by simp) ⟨by simp, fun d hd => by cases hd⟩
theorem eqS_iff (a b : ByteArray) : eqS a b = decide (a = b) := by
  unfold eqS
  rw [ByteArray.toList_eq, ByteArray.toList_eq]
  refine Bool.eq_iff_iff.2 ?_
  simp only [beq_iff_eq, decide_eq_true_eq]
  constructor
  · intro h
    obtain ⟨⟨a⟩⟩ := a
    obtain ⟨⟨b⟩⟩ := b
    simpa using h
  · rintro rfl
    rfl
/-- All items of a valid queue, with a valid item behind them, have different names. -/
theorem names_nodup {q : List IT} (h : (queE q).2 = 0) : (q.map (·.1)).Nodup := by
  obtain ⟨_, h2⟩ := queE_ok h
  rw [List.nodup_iff_pairwise_ne, List.pairwise_map, List.pairwise_iff_getElem]
  intro i j hi hj hij e
  have := (itemE_zero (h2 j hj)).2.2.2.2
  rw [List.any_eq_false] at this
  have hm : q[i] ∈ q.take j := by
    rw [List.mem_take_iff_getElem]
    exact ⟨i, by omega, rfl⟩
  have := this _ hm
  rw [eqS_iff] at this
  simp at this
  exact this e
theorem names_nodup1 {q : List IT} {x : IT} (h : (queE q).2 = 0) (hx : itemE q x = 0) : ((q ++ [x]).map (·.1)).Nodup := by
  rw [List.map_append, List.nodup_append]
  refine ⟨names_nodup h, by simp, fun a ha b hb e => ?_⟩
  simp only [List.map_cons, List.map_nil, List.mem_singleton] at hb
  subst hb
  obtain ⟨y, hy, rfl⟩ := List.mem_map.1 ha
  have := (itemE_zero hx).2.2.2.2
  rw [List.any_eq_false] at this
  have := this y hy
  rw [eqS_iff] at this
  simp at this
  exact this e
theorem small_all {q : List IT} {x : IT} (h : (queE q).2 = 0) (hx : itemE q x = 0) : SmallS (q ++ [x]) := by
  intro y hy
  rcases List.mem_append.1 hy with hy | hy
  · obtain ⟨k, hk, rfl⟩ := List.getElem_of_mem hy
    exact (szOk h).sz k hk
  · rw [List.mem_singleton] at hy
    subst hy
    exact (itemE_zero hx).2.1
/-- What is kept and what was dropped. -/
theorem PutI.apart {all q D : List IT} (h : PutI all q D) (hn : (all.map (·.1)).Nodup) {y : IT} (hy : y ∈ all) : (y ∈ q ∧ y.1 ∉ D.map (·.1)) ∨ (y ∉ q ∧ y.1 ∈ D.map (·.1) ∧ ∀ a ∈ q, ¬ betterI y a) := by
  have h1 := ((h.perm.map (·.1)).nodup_iff).2 hn
  rw [List.map_append, List.nodup_append] at h1
  obtain ⟨_, _, h3⟩ := h1
  rcases List.mem_append.1 (h.perm.mem_iff.2 hy) with h4 | h4
  · refine .inl ⟨h4, fun h5 => h3 y.1 (List.mem_map_of_mem h4) y.1 h5 rfl⟩
  · exact .inr ⟨fun h5 => h3 y.1 (List.mem_map_of_mem h5) y.1 (List.mem_map_of_mem h4) rfl, List.mem_map_of_mem h4, h.worse y h4⟩
end Go.Proofs.Ytohdjhdkmdhhcaa
