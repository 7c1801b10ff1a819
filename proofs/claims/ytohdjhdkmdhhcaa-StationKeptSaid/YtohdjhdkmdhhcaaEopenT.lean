/- Arguments opened: a slice of items. No condition. -/
import Derived.Test.YtohdjhdkmdhhcaaEopen
import Derived.Test.YtohdjhdkmdhhcaaE65
import Derived.OpenShut
import Derived.ChangeMaps5
set_option linter.unusedSimpArgs false
set_option linter.unusedVariables false
namespace Go.Proofs.Ytohdjhdkmdhhcaa
open Go.RowKit Go.ChangeShapes Go.WideShapes Go.ChangeAt
set_option maxRecDepth 100000

theorem cellsT : Try.prog.cellsOf 37 = 4 := by kernel_rfl
theorem cellsS : Try.prog.cellsOf 9 = 1 := by kernel_rfl
section
variable {H : Type} {enc : TypeId × Value → H} {w : World} {base : Nat} {sp : Nat → Bool} {held : Bool}

theorem item_of_trod {m : Nat} {cs : List Value} {x : DataW H × List MemPlace} (h : DataW.trod enc Try.prog w base sp held m 37 cs = some x) : ∃ g : IT, cs = itC g ∧ g.1.size ≤ maxLen := by
  obtain ⟨y0, y1, y2, y3, n, rfl, hl, h0, h1, h2, h3⟩ := Joins.trod_struct4 Try.underlying37 h
  rw [cellsT] at hl
  simp only [cellsI, cellsS] at h0 h1 h2 h3
  match cs, hl with
  | [a, b, c, d], _ =>
    obtain ⟨s, e0, _, hs⟩ := DataW.trod_string Try.underlying9 h0
    obtain ⟨v, e1, _, _⟩ := DataW.trod_int Try.underlying3 h1
    obtain ⟨z, e2, _, _⟩ := DataW.trod_int Try.underlying3 h2
    obtain ⟨u, e3, _, _⟩ := DataW.trod_int Try.underlying3 h3
    simp at e0 e1 e2 e3
    exact ⟨(s, v, z, u), by rw [e0, e1, e2, e3], hs⟩
theorem open_items_rd {m : Nat} {v : Value} {x : DataW H × List MemPlace} (h : DataW.trod enc Try.prog w base sp held m 22 [v] = some x) :
    ∃ A l c, v = .slice A l.length c ∧ Rd w A (its l) ∧ l.length ≤ c ∧ l.length ≤ maxLen := by
  rcases Go.Deep.open_slice Try.underlying22 h with ⟨h1, _⟩ | ⟨a, len, cap, m', n, D, Pl, h1, _, hl, hm, hmm, _, hel⟩
  · simp only [List.cons.injEq, and_true] at h1
    exact ⟨none, [], 0, h1, Rd.nil _ _, by simp, by simp⟩
  · simp only [List.cons.injEq, and_true] at h1
    have hml : len ≤ m' := by rw [hmm]; split <;> omega
    have hg : ∀ i, i < len → ∃ g : IT, w.cell? ((a.add (i * 4)).add 0) = some (.string g.1) ∧ w.cell? ((a.add (i * 4)).add 1) = some (.int .i64 g.2.1) ∧ w.cell? ((a.add (i * 4)).add 2) = some (.int .i64 g.2.2.1) ∧ w.cell? ((a.add (i * 4)).add 3) = some (.int .i64 g.2.2.2) := fun i hi => by
      obtain ⟨cs', hc, ht⟩ := hel i (by omega)
      rw [cellsT] at hc
      obtain ⟨g, rfl, _⟩ := item_of_trod ht
      obtain ⟨_, _, hat⟩ := World.cells?_some hc
      exact ⟨g, hat 0 (by omega), hat 1 (by omega), hat 2 (by omega), hat 3 (by omega)⟩
    obtain ⟨l, hll, hlp⟩ := list_of_all (P := fun i (g : IT) => w.cell? ((a.add (i * 4)).add 0) = some (.string g.1) ∧ w.cell? ((a.add (i * 4)).add 1) = some (.int .i64 g.2.1) ∧ w.cell? ((a.add (i * 4)).add 2) = some (.int .i64 g.2.2.1) ∧ w.cell? ((a.add (i * 4)).add 3) = some (.int .i64 g.2.2.2)) len hg
    refine ⟨some a, l, cap, by rw [hll]; exact h1, fun hx => ?_, by omega, by omega⟩
    have hp : 0 < l.length := by
      rcases Nat.eq_zero_or_pos l.length with h0 | h0
      · rw [List.eq_nil_of_length_eq_zero h0] at hx; exact absurd rfl hx
      · exact h0
    obtain ⟨b, off, spot⟩ := a
    have hspot : spot = none := by simpa [Addr.add] using World.cell?_spot (hlp 0 hp).1
    subst hspot
    simp only [add_plain] at hlp
    refine ⟨b, off, rfl, World.block_lt_of_cell? _ _ (hlp 0 hp).1, fun j u hu => ?_⟩
    have hj : j < l.length * 4 := by have := (List.getElem?_eq_some_iff.1 hu).1; rwa [its_length] at this
    have hq : j / 4 < l.length := by omega
    obtain ⟨h0, h1', h2', h3'⟩ := its_at hq
    have hd : j = j / 4 * 4 + 0 ∨ j = j / 4 * 4 + 1 ∨ j = j / 4 * 4 + 2 ∨ j = j / 4 * 4 + 3 := by omega
    rcases hd with e | e | e | e
    · rw [e] at hu ⊢
      rw [Nat.add_zero] at hu
      rw [h0] at hu
      rw [← hu, ← Nat.add_assoc]
      exact (hlp _ hq).1
    · rw [e] at hu ⊢
      rw [h1'] at hu
      rw [← hu, ← Nat.add_assoc]
      exact (hlp _ hq).2.1
    · rw [e] at hu ⊢
      rw [h2'] at hu
      rw [← hu, ← Nat.add_assoc]
      exact (hlp _ hq).2.2.1
    · rw [e] at hu ⊢
      rw [h3'] at hu
      rw [← hu, ← Nat.add_assoc]
      exact (hlp _ hq).2.2.2
end
end Go.Proofs.Ytohdjhdkmdhhcaa
