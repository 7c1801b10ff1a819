/- Arguments opened: a slice of pairs of whole numbers. No condition. -/
import Derived.Test.YtmdmkmfemhkfgaaEopen
import Derived.Test.YtmdmkmfemhkfgaaE8
import Derived.OpenShut
set_option linter.unusedSimpArgs false
set_option linter.unusedVariables false
namespace Go.Proofs.Ytmdmkmfemhkfgaa
open Go.RowKit Go.ChangeShapes Go.WideShapes Go.ChangeAt
set_option maxRecDepth 100000

theorem cellsPair : Try.prog.cellsOf 42 = 2 := by kernel_rfl
theorem underNets : Try.prog.underlying 69 = some (.slice 42) := by kernel_rfl
section
variable {H : Type} {enc : TypeId × Value → H} {w : World} {base : Nat} {sp : Nat → Bool} {held : Bool}

theorem pair_of_trod {m : Nat} {cs : List Value} {x : DataW H × List MemPlace} (h : DataW.trod enc Try.prog w base sp held m 42 cs = some x) : ∃ u v, cs = [.int .i64 u, .int .i64 v] := by
  obtain ⟨xs, n, _, rfl, hl, hlen, hf⟩ := DataW.trod_array Try.underPair h
  rw [cellsPair] at hl
  simp only [cellsI] at hf
  match cs, hl with
  | [a, b], _ =>
    match xs, hlen with
    | [y0, y1], _ =>
      have h0 : DataW.trod enc Try.prog w base sp held n 3 [a] = some y0 := by simpa using hf 0 (by decide)
      have h1 : DataW.trod enc Try.prog w base sp held n 3 [b] = some y1 := by simpa using hf 1 (by decide)
      obtain ⟨u, e0, _, _⟩ := DataW.trod_int Try.underlying3 h0
      obtain ⟨v, e1, _, _⟩ := DataW.trod_int Try.underlying3 h1
      simp at e0 e1
      exact ⟨u, v, by rw [e0, e1]⟩
theorem open_prs_rd {m : Nat} {v : Value} {x : DataW H × List MemPlace} (h : DataW.trod enc Try.prog w base sp held m 69 [v] = some x) :
    ∃ A l c, v = .slice A l.length c ∧ Rd w A (gs l) ∧ l.length ≤ maxLen := by
  rcases Go.Deep.open_slice underNets h with ⟨h1, _⟩ | ⟨a, len, cap, m', n, D, Pl, h1, _, hl, hm, hmm, _, hel⟩
  · simp only [List.cons.injEq, and_true] at h1
    exact ⟨none, [], 0, h1, Rd.nil _ _, by simp⟩
  · simp only [List.cons.injEq, and_true] at h1
    have hml : len ≤ m' := by rw [hmm]; split <;> omega
    have hg : ∀ i, i < len → ∃ g : G, w.cell? ((a.add (i * 2)).add 0) = some (.int .i64 g.1) ∧ w.cell? ((a.add (i * 2)).add 1) = some (.int .i64 g.2) := fun i hi => by
      obtain ⟨cs', hc, ht⟩ := hel i (by omega)
      rw [cellsPair] at hc
      obtain ⟨u, v, rfl⟩ := pair_of_trod ht
      obtain ⟨_, _, hat⟩ := World.cells?_some hc
      exact ⟨(u, v), hat 0 (by omega), hat 1 (by omega)⟩
    obtain ⟨l, hll, hlp⟩ := list_of_all (P := fun i (g : G) => w.cell? ((a.add (i * 2)).add 0) = some (.int .i64 g.1) ∧ w.cell? ((a.add (i * 2)).add 1) = some (.int .i64 g.2)) len hg
    refine ⟨some a, l, cap, by rw [hll]; exact h1, fun hx => ?_, by omega⟩
    have hp : 0 < l.length := by
      rcases Nat.eq_zero_or_pos l.length with h0 | h0
      · rw [List.eq_nil_of_length_eq_zero h0] at hx; exact absurd rfl hx
      · exact h0
    obtain ⟨b, off, spot⟩ := a
    have hspot : spot = none := by simpa [Addr.add] using World.cell?_spot (hlp 0 hp).1
    subst hspot
    simp only [add_plain] at hlp
    refine ⟨b, off, rfl, World.block_lt_of_cell? _ _ (hlp 0 hp).1, fun j u hu => ?_⟩
    have hj : j < l.length * 2 := by have := (List.getElem?_eq_some_iff.1 hu).1; rwa [gs_length] at this
    have hq : j / 2 < l.length := by omega
    obtain ⟨h0, h1'⟩ := gs_at hq
    have hd : j = j / 2 * 2 + 0 ∨ j = j / 2 * 2 + 1 := by omega
    rcases hd with e | e
    · rw [e] at hu ⊢
      rw [Nat.add_zero] at hu
      rw [h0] at hu
      rw [← hu, ← Nat.add_assoc]
      exact (hlp _ hq).1
    · rw [e] at hu ⊢
      rw [h1'] at hu
      rw [← hu, ← Nat.add_assoc]
      exact (hlp _ hq).2
end
end Go.Proofs.Ytmdmkmfemhkfgaa
