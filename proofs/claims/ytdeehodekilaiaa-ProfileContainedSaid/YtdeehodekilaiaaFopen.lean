/- Arguments opened: slices of slabs as lists that are read. No condition. -/
import Derived.Test.YtdeehodekilaiaaFlift
import Derived.Deep.Slices
import Derived.ChangeSlices
set_option linter.unusedSimpArgs false
set_option linter.unusedVariables false
namespace Go.Proofs.Ytdeehodekilaiaa
open Go.RowKit Go.ChangeShapes Go.WideShapes Go.ChangeAt
set_option maxRecDepth 100000

theorem cellsS : Try.prog.cellsOf 47 = 2 := by kernel_rfl
theorem list_of_all {α : Type} {P : Nat → α → Prop} (n : Nat) (h : ∀ i, i < n → ∃ g, P i g) : ∃ l : List α, l.length = n ∧ ∀ i (hi : i < l.length), P i l[i] := by
  induction n with
  | zero => exact ⟨[], rfl, fun i hi => absurd hi (Nat.not_lt_zero _)⟩
  | succ n ih =>
    obtain ⟨l, hl, hp⟩ := ih fun i hi => h i (by omega)
    obtain ⟨g, hg⟩ := h n (by omega)
    refine ⟨l ++ [g], by simp [hl], fun i hi => ?_⟩
    by_cases e : i < l.length
    · rw [List.getElem_append_left e]; exact hp i e
    · have e' : i = n := by simp at hi; omega
      subst e'
      rw [List.getElem_append_right (by omega)]
      simpa [hl] using hg

section
variable {H : Type} {enc : TypeId × Value → H} {w : World} {base : Nat} {sp : Nat → Bool} {held : Bool}

theorem slab_of_trod {m : Nat} {cs : List Value} {x : DataW H × List MemPlace} (h : DataW.trod enc Try.prog w base sp held m 47 cs = some x) : ∃ u v, cs = [.int .i64 u, .int .i64 v] ∧ x.1 = .agg [.lit (.int .i64 u), .lit (.int .i64 v)] := by
  obtain ⟨y0, y1, n, rfl, hl, h0, h1⟩ := trod_struct2 Try.underlying47 h
  rw [cellsS] at hl
  simp only [cellsI] at h0 h1
  match cs, hl with
  | [a, b], _ =>
    obtain ⟨u, e0, rfl, _⟩ := DataW.trod_int Try.underlying3 h0
    obtain ⟨v, e1, rfl, _⟩ := DataW.trod_int Try.underlying3 h1
    simp at e0 e1
    exact ⟨u, v, by rw [e0, e1], rfl⟩
theorem open_gs_rd {m : Nat} {v : Value} {x : DataW H × List MemPlace} (h : DataW.trod enc Try.prog w base sp held m 22 [v] = some x) :
    ∃ A l c, v = .slice A l.length c ∧ Rd w A (gs l) ∧ l.length ≤ maxLen := by
  rcases Go.Deep.open_slice Try.underlying22 h with ⟨h1, _⟩ | ⟨a, len, cap, m', n, D, Pl, h1, _, hl, hm, hmm, _, hel⟩
  · simp only [List.cons.injEq, and_true] at h1
    exact ⟨none, [], 0, h1, Rd.nil _ _, by simp⟩
  · simp only [List.cons.injEq, and_true] at h1
    have hml : len ≤ m' := by rw [hmm]; split <;> omega
    have hg : ∀ i, i < len → ∃ g : Int × Int, w.cell? ((a.add (i * 2)).add 0) = some (.int .i64 g.1) ∧ w.cell? ((a.add (i * 2)).add 1) = some (.int .i64 g.2) := fun i hi => by
      obtain ⟨cs', hc, ht⟩ := hel i (by omega)
      rw [cellsS] at hc
      obtain ⟨u, v, rfl, _⟩ := slab_of_trod ht
      obtain ⟨_, _, hat⟩ := World.cells?_some hc
      exact ⟨(u, v), hat 0 (by omega), hat 1 (by omega)⟩
    obtain ⟨l, hll, hlp⟩ := list_of_all (P := fun i (g : Int × Int) => w.cell? ((a.add (i * 2)).add 0) = some (.int .i64 g.1) ∧ w.cell? ((a.add (i * 2)).add 1) = some (.int .i64 g.2)) len hg
    refine ⟨some a, l, cap, by rw [hll]; exact h1, fun hx => ?_, by omega⟩
    have hp : 0 < l.length := by
      rcases Nat.eq_zero_or_pos l.length with h0 | h0
      · rw [List.eq_nil_of_length_eq_zero h0] at hx; exact absurd rfl hx
      · exact h0
    obtain ⟨b, off, spot⟩ := a
    have hspot : spot = none := by simpa [Addr.add] using World.cell?_spot (hlp 0 hp).1
    subst hspot
    simp only [add_plain] at hlp
    refine ⟨b, off, rfl, World.block_lt_of_cell? _ _ (hlp 0 hp).1, fun j u hu => ?_⟩
    have hj : j < l.length * 2 := by have := (List.getElem?_eq_some_iff.1 hu).1; rwa [gs_length] at this
    have hq : j / 2 < l.length := by omega
    obtain ⟨h0, h1'⟩ := gs_at hq
    have hd : j = j / 2 * 2 + 0 ∨ j = j / 2 * 2 + 1 := by omega
    rcases hd with e | e
    · rw [e] at hu ⊢
      rw [Nat.add_zero] at hu
      rw [h0] at hu
      rw [← hu, ← Nat.add_assoc]
      exact (hlp _ hq).1
    · rw [e] at hu ⊢
      rw [h1'] at hu
      rw [← hu, ← Nat.add_assoc]
      exact (hlp _ hq).2
end

/-- A slice as a parameter: its one cell. -/
theorem trod_of_slice {H : Type} {enc : TypeId × Value → H} {w : World} {base b0 : Nat} {sp : Nat → Bool} {held : Bool} {r : Reach} {t e : TypeId} {v : Value} {d : DataW H} {p : List MemPlace} (ht : Try.prog.underlying t = some (.slice e))
    (hv : Value.okWide Try.prog w r b0 t v) (h : DataW.Trod enc Try.prog w base sp held t v d p) : ∃ m, DataW.trod enc Try.prog w base sp held m t [v] = some (d, p) := by
  obtain ⟨a, n, c, rfl⟩ := okWide_slice ht hv
  obtain ⟨m, hm⟩ := h
  exact ⟨m, hm⟩
end Go.Proofs.Ytdeehodekilaiaa
