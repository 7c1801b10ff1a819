/- Mathematics: items of a queue as plain data, and the order in which they go. Plain lemmas; no condition. -/
import Derived.Test.YtohdjhdkmdhhcaaQA
import Derived.Sort.LotA
set_option linter.unusedSimpArgs false
set_option linter.unusedVariables false
set_option linter.unusedSimpArgs false
set_option linter.unusedVariables false
namespace Go.Proofs.Ytohdjhdkmdhhcaa

/-- An item: its name, priority, size and tick. -/
abbrev IT := ByteArray × Int × Int × Int
def it0 : IT := (ByteArray.empty, 0, 0, 0)
def itP (q : List IT) (i : Nat) : Int := (q.getD i it0).2.1
def itS (q : List IT) (i : Nat) : Int := (q.getD i it0).2.2.1
def itT (q : List IT) (i : Nat) : Int := (q.getD i it0).2.2.2
/-- Item i goes before item k. -/
def befI (q : List IT) (i k : Nat) : Bool :=
  if itP q i = itP q k then (if itT q i = itT q k then decide (i < k) else decide (itT q i < itT q k)) else decide (itP q k < itP q i)
/-- The same, without the places. -/
def wkI (q : List IT) (i k : Nat) : Bool :=
  if itP q i = itP q k then decide (itT q i < itT q k) else decide (itP q k < itP q i)
theorem befI_irrefl (q : List IT) (i : Nat) : befI q i i = false := by simp [befI]
theorem befI_trans (q : List IT) {i j k : Nat} (h1 : befI q i j = true) (h2 : befI q j k = true) : befI q i k = true := by
  unfold befI at *
  split at h1 <;> split at h2 <;> (try split at h1) <;> (try split at h2) <;> simp only [decide_eq_true_eq] at h1 h2 <;> (repeat' split) <;> simp only [decide_eq_true_eq] <;> omega
theorem befI_total (q : List IT) {i k : Nat} (h : i ≠ k) : befI q i k = true ∨ befI q k i = true := by
  unfold befI
  (repeat' split) <;> simp only [decide_eq_true_eq] <;> omega
theorem befI_asymm (q : List IT) {i k : Nat} (h : befI q i k = true) : befI q k i = false := by
  cases e : befI q k i
  · rfl
  · have := befI_trans q h e
    rw [befI_irrefl] at this
    cases this
theorem befI_wk (q : List IT) {i k : Nat} (h : k < i) : befI q i k = wkI q i k := by
  unfold befI wkI
  (repeat' split) <;> first | rfl | (simp; omega)

/-- The order of a queue: a permutation of all indexes, each of which goes before those behind it. -/
structure IsOrd (q : List IT) (r : List Nat) : Prop where
  perm : r.Perm (List.range q.length)
  sorted : r.Pairwise fun a b => befI q a b = true
def ordL (q : List IT) : List Nat := (List.range q.length).mergeSort fun a b => !befI q b a
theorem ordL_ok (q : List IT) : IsOrd q (ordL q) := by
  have hp : (ordL q).Perm (List.range q.length) := List.mergeSort_perm _ _
  refine ⟨hp, ?_⟩
  have hs : (ordL q).Pairwise fun a b => (!befI q b a) = true := by
    refine List.pairwise_mergeSort (fun a b c h1 h2 => ?_) (fun a b => ?_) _
    · simp only [Bool.not_eq_true'] at h1 h2 ⊢
      by_cases e1 : a = b
      · subst e1; exact h2
      · by_cases e2 : b = c
        · subst e2; exact h1
        · have k1 := (befI_total q e1).resolve_right (by rw [h1]; simp)
          have k2 := (befI_total q e2).resolve_right (by rw [h2]; simp)
          exact befI_asymm q (befI_trans q k1 k2)
    · by_cases e : a = b
      · subst e; simp [befI_irrefl]
      · rcases befI_total q e with h | h
        · simp [befI_asymm q h]
        · simp [befI_asymm q h]
  have hn : (ordL q).Nodup := hp.nodup_iff.2 List.nodup_range
  refine (hs.and hn).imp fun {a b} h => ?_
  have h1 : befI q b a = false := by simpa using h.1
  exact (befI_total q h.2).resolve_right (by rw [h1]; simp)
theorem IsOrd.eq {q : List IT} {r : List Nat} (h : IsOrd q r) : r = ordL q :=
  List.Perm.eq_of_pairwise (le := fun a b => befI q a b = true) (fun a b _ _ h1 h2 => by rw [befI_asymm q h1] at h2; cases h2) h.sorted (ordL_ok q).sorted (h.perm.trans (ordL_ok q).perm.symm)
theorem ordL_len (q : List IT) : (ordL q).length = q.length := by rw [(ordL_ok q).perm.length_eq, List.length_range]
theorem ordL_mem (q : List IT) {i : Nat} : i ∈ ordL q ↔ i < q.length := by rw [(ordL_ok q).perm.mem_iff, List.mem_range]
theorem ordL_nodup (q : List IT) : (ordL q).Nodup := (ordL_ok q).perm.nodup_iff.2 List.nodup_range

/-- How many of the first m items go before item i. -/
def rankTo (q : List IT) (i m : Nat) : Nat := (List.range m).countP fun k => befI q k i
theorem rankTo_zero (q : List IT) (i : Nat) : rankTo q i 0 = 0 := rfl
theorem rankTo_succ (q : List IT) (i m : Nat) : rankTo q i (m + 1) = rankTo q i m + (if befI q m i then 1 else 0) := by
  unfold rankTo
  rw [List.range_succ, List.countP_append]
  simp [List.countP_cons]
theorem rankTo_le (q : List IT) (i m : Nat) : rankTo q i m ≤ m := by
  have := List.countP_le_length (p := fun k => befI q k i) (l := List.range m)
  rw [List.length_range] at this
  exact this
theorem rank_at (q : List IT) {j : Nat} (hj : j < (ordL q).length) : rankTo q (ordL q)[j] q.length = j := by
  have hs := (ordL_ok q).sorted
  unfold rankTo
  rw [← (ordL_ok q).perm.countP_eq]
  have e : ordL q = (ordL q).take j ++ (ordL q)[j] :: (ordL q).drop (j + 1) := by rw [List.getElem_cons_drop, List.take_append_drop]
  have hs2 := hs
  rw [e, List.pairwise_append] at hs2
  obtain ⟨_, h2, h3⟩ := hs2
  rw [List.pairwise_cons] at h2
  generalize hx : (ordL q)[j] = x at *
  rw [e, List.countP_append, List.countP_cons]
  have e1 : ((ordL q).take j).countP (fun k => befI q k x) = j := by
    rw [List.countP_eq_length.2 (fun a ha => h3 a ha x (by simp)), List.length_take]
    omega
  have e2 : ((ordL q).drop (j + 1)).countP (fun k => befI q k x) = 0 := by
    rw [List.countP_eq_zero]
    intro a ha
    rw [befI_asymm q (h2.1 a ha)]
    simp
  rw [e1, e2, befI_irrefl]
  simp
theorem rank_pos (q : List IT) {i : Nat} (hi : i < q.length) : ∃ h : rankTo q i q.length < (ordL q).length, (ordL q)[rankTo q i q.length] = i := by
  obtain ⟨j, hj, e⟩ := List.getElem_of_mem ((ordL_mem q).2 hi)
  have := rank_at q hj
  rw [e] at this
  rw [this]
  exact ⟨hj, e⟩
/-- The reference's row behind i rounds. -/
def rowTo (q : List IT) (i : Nat) : List Int := (ordL q).map fun k => if k < i then (k : Int) else 0
theorem rowTo_len (q : List IT) (i : Nat) : (rowTo q i).length = q.length := by rw [rowTo, List.length_map, ordL_len]
theorem rowTo_zero (q : List IT) : rowTo q 0 = List.replicate q.length 0 := by
  refine List.ext_getElem (by rw [rowTo_len]; simp) fun j h1 h2 => ?_
  simp [rowTo]
theorem rowTo_succ (q : List IT) {i : Nat} (hi : i < q.length) : (rowTo q i).set (rankTo q i q.length) (i : Int) = rowTo q (i + 1) := by
  obtain ⟨h, e⟩ := rank_pos q hi
  refine List.ext_getElem (by rw [List.length_set, rowTo_len, rowTo_len]) fun j h1 h2 => ?_
  rw [List.getElem_set]
  split
  · next e2 =>
    subst e2
    simp only [rowTo, List.getElem_map]
    rw [e, if_pos (by omega)]
  · next e2 =>
    have hj : j < (ordL q).length := by simpa [rowTo] using h2
    have hne : (ordL q)[j] ≠ i := fun e3 => e2 (by have := rank_at q hj; rw [e3] at this; exact this)
    simp only [rowTo, List.getElem_map]
    by_cases h4 : (ordL q)[j] < i
    · rw [if_pos h4, if_pos (by omega)]
    · rw [if_neg h4, if_neg (by omega)]
/-- The order as numbers. -/
def ordI (q : List IT) : List Int := (ordL q).map fun (k : Nat) => (k : Int)
theorem ordI_len (q : List IT) : (ordI q).length = q.length := by rw [ordI, List.length_map, ordL_len]
theorem rowTo_end (q : List IT) : rowTo q q.length = ordI q := by
  unfold rowTo ordI
  refine List.map_congr_left fun k hk => ?_
  rw [if_pos ((ordL_mem q).1 hk)]
theorem ordI_at (q : List IT) {j : Nat} (hj : j < (ordI q).length) : ∃ h : j < (ordL q).length, (ordI q)[j] = ((ordL q)[j] : Int) ∧ (ordL q)[j] < q.length := by
  have h : j < (ordL q).length := by simpa [ordI] using hj
  exact ⟨h, by simp [ordI], (ordL_mem q).1 (List.getElem_mem h)⟩
end Go.Proofs.Ytohdjhdkmdhhcaa
