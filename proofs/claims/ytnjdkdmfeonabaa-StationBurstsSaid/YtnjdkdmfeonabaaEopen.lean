/- Arguments opened: slices of exchanges, of whole numbers. No condition. -/
import Derived.Test.YtnjdkdmfeonabaaElift
import Derived.Test.YtnjdkdmfeonabaaE2
import Derived.Deep.Slices
import Derived.Deep.Strs
import Derived.ChangeSlices
set_option linter.unusedSimpArgs false
set_option linter.unusedVariables false
namespace Go.Proofs.Ytnjdkdmfeonabaa
open Go.RowKit Go.ChangeShapes Go.WideShapes Go.ChangeAt
set_option maxRecDepth 100000

theorem cellsX : Try.prog.cellsOf 57 = 3 := by kernel_rfl
theorem list_of_all {α : Type} {P : Nat → α → Prop} (n : Nat) (h : ∀ i, i < n → ∃ g, P i g) : ∃ l : List α, l.length = n ∧ ∀ i (hi : i < l.length), P i l[i] := by
  induction n with
  | zero => exact ⟨[], rfl, fun i hi => absurd hi (Nat.not_lt_zero _)⟩
  | succ n ih =>
    obtain ⟨l, hl, hp⟩ := ih fun i hi => h i (by omega)
    obtain ⟨g, hg⟩ := h n (by omega)
    refine ⟨l ++ [g], by simp [hl], fun i hi => ?_⟩
    by_cases e : i < l.length
    · rw [List.getElem_append_left e]; exact hp i e
    · have e' : i = n := by simp at hi; omega
      subst e'
      rw [List.getElem_append_right (by omega)]
      simpa [hl] using hg

section
variable {H : Type} {enc : TypeId × Value → H} {w : World} {base : Nat} {sp : Nat → Bool} {held : Bool}

theorem exchange_of_trod {m : Nat} {cs : List Value} {x : DataW H × List MemPlace} (h : DataW.trod enc Try.prog w base sp held m 57 cs = some x) : ∃ u v z, cs = [.int .i64 u, .int .i64 v, .int .i64 z] := by
  obtain ⟨y0, y1, y2, n, rfl, hl, h0, h1, h2⟩ := Go.Deep.trod_struct3 Try.underlying57 h
  rw [cellsX] at hl
  simp only [cellsI] at h0 h1 h2
  match cs, hl with
  | [a, b, c], _ =>
    obtain ⟨u, e0, _, _⟩ := DataW.trod_int Try.underlying3 h0
    obtain ⟨v, e1, _, _⟩ := DataW.trod_int Try.underlying3 h1
    obtain ⟨z, e2, _, _⟩ := DataW.trod_int Try.underlying3 h2
    simp at e0 e1 e2
    exact ⟨u, v, z, by rw [e0, e1, e2]⟩
theorem open_xs_rd {m : Nat} {v : Value} {x : DataW H × List MemPlace} (h : DataW.trod enc Try.prog w base sp held m 34 [v] = some x) :
    ∃ A l c, v = .slice A l.length c ∧ Rd w A (ps l) ∧ l.length ≤ maxLen := by
  rcases Go.Deep.open_slice Try.underlying34 h with ⟨h1, _⟩ | ⟨a, len, cap, m', n, D, Pl, h1, _, hl, hm, hmm, _, hel⟩
  · simp only [List.cons.injEq, and_true] at h1
    exact ⟨none, [], 0, h1, Rd.nil _ _, by simp⟩
  · simp only [List.cons.injEq, and_true] at h1
    have hml : len ≤ m' := by rw [hmm]; split <;> omega
    have hg : ∀ i, i < len → ∃ g : PT, w.cell? ((a.add (i * 3)).add 0) = some (.int .i64 g.1) ∧ w.cell? ((a.add (i * 3)).add 1) = some (.int .i64 g.2.1) ∧ w.cell? ((a.add (i * 3)).add 2) = some (.int .i64 g.2.2) := fun i hi => by
      obtain ⟨cs', hc, ht⟩ := hel i (by omega)
      rw [cellsX] at hc
      obtain ⟨u, v, z, rfl⟩ := exchange_of_trod ht
      obtain ⟨_, _, hat⟩ := World.cells?_some hc
      exact ⟨(u, v, z), hat 0 (by omega), hat 1 (by omega), hat 2 (by omega)⟩
    obtain ⟨l, hll, hlp⟩ := list_of_all (P := fun i (g : PT) => w.cell? ((a.add (i * 3)).add 0) = some (.int .i64 g.1) ∧ w.cell? ((a.add (i * 3)).add 1) = some (.int .i64 g.2.1) ∧ w.cell? ((a.add (i * 3)).add 2) = some (.int .i64 g.2.2)) len hg
    refine ⟨some a, l, cap, by rw [hll]; exact h1, fun hx => ?_, by omega⟩
    have hp : 0 < l.length := by
      rcases Nat.eq_zero_or_pos l.length with h0 | h0
      · rw [List.eq_nil_of_length_eq_zero h0] at hx; exact absurd rfl hx
      · exact h0
    obtain ⟨b, off, spot⟩ := a
    have hspot : spot = none := by simpa [Addr.add] using World.cell?_spot (hlp 0 hp).1
    subst hspot
    simp only [add_plain] at hlp
    refine ⟨b, off, rfl, World.block_lt_of_cell? _ _ (hlp 0 hp).1, fun j u hu => ?_⟩
    have hj : j < l.length * 3 := by have := (List.getElem?_eq_some_iff.1 hu).1; rwa [ps_length] at this
    have hq : j / 3 < l.length := by omega
    obtain ⟨h0, h1', h2'⟩ := ps_at hq
    have hd : j = j / 3 * 3 + 0 ∨ j = j / 3 * 3 + 1 ∨ j = j / 3 * 3 + 2 := by omega
    rcases hd with e | e | e
    · rw [e] at hu ⊢
      rw [Nat.add_zero] at hu
      rw [h0] at hu
      rw [← hu, ← Nat.add_assoc]
      exact (hlp _ hq).1
    · rw [e] at hu ⊢
      rw [h1'] at hu
      rw [← hu, ← Nat.add_assoc]
      exact (hlp _ hq).2.1
    · rw [e] at hu ⊢
      rw [h2'] at hu
      rw [← hu, ← Nat.add_assoc]
      exact (hlp _ hq).2.2
theorem open_ints_rd {m : Nat} {v : Value} {x : DataW H × List MemPlace} (h : DataW.trod enc Try.prog w base sp held m 36 [v] = some x) :
    ∃ A l c, v = .slice A l.length c ∧ Rd w A (ints l) ∧ l.length ≤ maxLen ∧ ∀ n ∈ l, (Lit.int .i64 n).wf = true := by
  rcases open_ints Try.underlying36 Try.underlying3 cellsI h with ⟨h1, _⟩ | ⟨a, len, cap, zs, h1, _, hl, hm, hz, _, hcell, hwz⟩
  · simp only [List.cons.injEq, and_true] at h1
    exact ⟨none, [], 0, h1, Rd.nil _ _, by simp, fun _ h => by cases h⟩
  · simp only [List.cons.injEq, and_true] at h1
    have hzl : len ≤ zs.length := by rw [hz]; split <;> omega
    refine ⟨some a, zs.take len, cap, by rw [List.length_take, Nat.min_eq_left hzl]; exact h1, fun hx => ?_, by rw [List.length_take]; omega, fun n hn => hwz n (List.mem_of_mem_take hn)⟩
    have hp : 0 < len := by
      rcases Nat.eq_zero_or_pos len with h0 | h0
      · subst h0; simp at hx
      · exact h0
    obtain ⟨b, off, spot⟩ := a
    have hspot : spot = none := by simpa [Addr.add] using World.cell?_spot (hcell 0 (by omega))
    subst hspot
    have hc : ∀ j, j < zs.length → w.cell? ⟨b, off + j, none⟩ = some (.int .i64 (zs.getD j 0)) := fun j hj => by rw [← add_plain]; exact hcell j hj
    refine ⟨b, off, rfl, World.block_lt_of_cell? _ _ (hc 0 (by omega)), fun j u hu => ?_⟩
    have hj : j < (zs.take len).length := by have := (List.getElem?_eq_some_iff.1 hu).1; simpa using this
    have hj2 : j < len := by rw [List.length_take] at hj; omega
    rw [ints_at hj] at hu
    rw [hc j (by omega), ← hu]
    simp [List.getD, show j < zs.length from by omega]
end
/-- A slice as a parameter: its one cell. -/
theorem trod_of_slice {H : Type} {enc : TypeId × Value → H} {w : World} {base b0 : Nat} {sp : Nat → Bool} {held : Bool} {r : Reach} {t e : TypeId} {v : Value} {d : DataW H} {p : List MemPlace} (ht : Try.prog.underlying t = some (.slice e))
    (hv : Value.okWide Try.prog w r b0 t v) (h : DataW.Trod enc Try.prog w base sp held t v d p) : ∃ m, DataW.trod enc Try.prog w base sp held m t [v] = some (d, p) := by
  obtain ⟨a, n, c, rfl⟩ := okWide_slice ht hv
  obtain ⟨m, hm⟩ := h
  exact ⟨m, hm⟩
end Go.Proofs.Ytnjdkdmfeonabaa
