/- Arguments opened: traces. No condition. -/
import Derived.Test.YtdeehodekilaiaaFopen
import Derived.Test.YtdeehodekilaiaaF0
set_option linter.unusedSimpArgs false
set_option linter.unusedVariables false
namespace Go.Proofs.Ytdeehodekilaiaa
open Go.RowKit Go.ChangeShapes Go.WideShapes Go.ChangeAt
set_option maxRecDepth 100000

theorem cellsP : Try.prog.cellsOf 55 = 3 := by kernel_rfl
theorem cellsR : Try.prog.cellsOf 51 = 2 := by kernel_rfl
section
variable {H : Type} {enc : TypeId × Value → H} {w : World} {base : Nat} {sp : Nat → Bool} {held : Bool}

theorem point_of_trod {m : Nat} {cs : List Value} {x : DataW H × List MemPlace} (h : DataW.trod enc Try.prog w base sp held m 55 cs = some x) : ∃ u v z, cs = [.int .i64 u, .int .i64 v, .int .i64 z] := by
  obtain ⟨y0, y1, n, rfl, hl, h0, h1⟩ := trod_struct2 Try.underlying55 h
  rw [cellsP] at hl
  simp only [cellsI, cellsR] at h0 h1
  match cs, hl with
  | [a, b, c], _ =>
    obtain ⟨u, e0, _, _⟩ := DataW.trod_int Try.underlying3 h0
    obtain ⟨z0, z1, n', _, hl', g0, g1⟩ := trod_struct2 Try.underlying51 h1
    simp only [cellsI] at g0 g1
    obtain ⟨v, e1, _, _⟩ := DataW.trod_int Try.underlying3 g0
    obtain ⟨z, e2, _, _⟩ := DataW.trod_int Try.underlying3 g1
    simp at e0 e1 e2
    exact ⟨u, v, z, by rw [e0, e1, e2]⟩
theorem open_ps_rd {m : Nat} {v : Value} {x : DataW H × List MemPlace} (h : DataW.trod enc Try.prog w base sp held m 28 [v] = some x) :
    ∃ A l c, v = .slice A l.length c ∧ Rd w A (ps l) ∧ l.length ≤ maxLen := by
  rcases Go.Deep.open_slice Try.underlying28 h with ⟨h1, _⟩ | ⟨a, len, cap, m', n, D, Pl, h1, _, hl, hm, hmm, _, hel⟩
  · simp only [List.cons.injEq, and_true] at h1
    exact ⟨none, [], 0, h1, Rd.nil _ _, by simp⟩
  · simp only [List.cons.injEq, and_true] at h1
    have hml : len ≤ m' := by rw [hmm]; split <;> omega
    have hg : ∀ i, i < len → ∃ g : PT, w.cell? ((a.add (i * 3)).add 0) = some (.int .i64 g.1) ∧ w.cell? ((a.add (i * 3)).add 1) = some (.int .i64 g.2.1) ∧ w.cell? ((a.add (i * 3)).add 2) = some (.int .i64 g.2.2) := fun i hi => by
      obtain ⟨cs', hc, ht⟩ := hel i (by omega)
      rw [cellsP] at hc
      obtain ⟨u, v, z, rfl⟩ := point_of_trod ht
      obtain ⟨_, _, hat⟩ := World.cells?_some hc
      exact ⟨(u, v, z), hat 0 (by omega), hat 1 (by omega), hat 2 (by omega)⟩
    obtain ⟨l, hll, hlp⟩ := list_of_all (P := fun i (g : PT) => w.cell? ((a.add (i * 3)).add 0) = some (.int .i64 g.1) ∧ w.cell? ((a.add (i * 3)).add 1) = some (.int .i64 g.2.1) ∧ w.cell? ((a.add (i * 3)).add 2) = some (.int .i64 g.2.2)) len hg
    refine ⟨some a, l, cap, by rw [hll]; exact h1, fun hx => ?_, by omega⟩
    have hp : 0 < l.length := by
      rcases Nat.eq_zero_or_pos l.length with h0 | h0
      · rw [List.eq_nil_of_length_eq_zero h0] at hx; exact absurd rfl hx
      · exact h0
    obtain ⟨b, off, spot⟩ := a
    have hspot : spot = none := by simpa [Addr.add] using World.cell?_spot (hlp 0 hp).1
    subst hspot
    simp only [add_plain] at hlp
    refine ⟨b, off, rfl, World.block_lt_of_cell? _ _ (hlp 0 hp).1, fun j u hu => ?_⟩
    have hj : j < l.length * 3 := by have := (List.getElem?_eq_some_iff.1 hu).1; rwa [ps_length] at this
    have hq : j / 3 < l.length := by omega
    obtain ⟨h0, h1', h2'⟩ := ps_at hq
    have hd : j = j / 3 * 3 + 0 ∨ j = j / 3 * 3 + 1 ∨ j = j / 3 * 3 + 2 := by omega
    rcases hd with e | e | e
    · rw [e] at hu ⊢
      rw [Nat.add_zero] at hu
      rw [h0] at hu
      rw [← hu, ← Nat.add_assoc]
      exact (hlp _ hq).1
    · rw [e] at hu ⊢
      rw [h1'] at hu
      rw [← hu, ← Nat.add_assoc]
      exact (hlp _ hq).2.1
    · rw [e] at hu ⊢
      rw [h2'] at hu
      rw [← hu, ← Nat.add_assoc]
      exact (hlp _ hq).2.2
end
end Go.Proofs.Ytdeehodekilaiaa
