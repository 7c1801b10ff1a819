/- Arguments opened: skies, fractions, fields, shots, tasks. No condition. -/
import Derived.Test.YtkcjiejdjdcbeaaRlift
import Derived.Deep.Slices
import Derived.Deep.Strs
import Derived.ChangeSlices
import Derived.OpenShut
set_option linter.unusedSimpArgs false
set_option linter.unusedVariables false
namespace Go.Proofs.Ytkcjiejdjdcbeaa
open Go.RowKit Go.ChangeShapes Go.WideShapes Go.ChangeAt
set_option maxRecDepth 100000

def In64 (n : Int) : Prop := -9223372036854775808 ≤ n ∧ n ≤ 9223372036854775807
theorem in64_wf {n : Int} (h : (Lit.int .i64 n).wf = true) : In64 n := by
  simpa [In64, Lit.wf, IntKind.min, IntKind.max, IntKind.signed, IntKind.bits] using h
theorem list_of_all {α : Type} {P : Nat → α → Prop} (n : Nat) (h : ∀ i, i < n → ∃ g, P i g) : ∃ l : List α, l.length = n ∧ ∀ i (hi : i < l.length), P i l[i] := by
  induction n with
  | zero => exact ⟨[], rfl, fun i hi => absurd hi (Nat.not_lt_zero _)⟩
  | succ n ih =>
    obtain ⟨l, hl, hp⟩ := ih fun i hi => h i (by omega)
    obtain ⟨g, hg⟩ := h n (by omega)
    refine ⟨l ++ [g], by simp [hl], fun i hi => ?_⟩
    by_cases e : i < l.length
    · rw [List.getElem_append_left e]; exact hp i e
    · have e' : i = n := by simp at hi; omega
      subst e'
      rw [List.getElem_append_right (by omega)]
      simpa [hl] using hg

theorem cells_slab : Try.prog.cellsOf 79 = 2 := by kernel_rfl
theorem slab_of_trod {H : Type} {enc : TypeId × Value → H} {w : World} {base : Nat} {sp : Nat → Bool} {held : Bool} {m : Nat} {cs : List Value} {x : DataW H × List MemPlace} (h : DataW.trod enc Try.prog w base sp held m 79 cs = some x) : ∃ u v, cs = [.int .i64 u, .int .i64 v] ∧ In64 u ∧ In64 v := by
  obtain ⟨y0, y1, n, rfl, hl, h0, h1⟩ := trod_struct2 Try.underlying79 h
  rw [cells_slab] at hl
  simp only [cellsI] at h0 h1
  match cs, hl with
  | [a, b], _ =>
    obtain ⟨u, e0, _, w0⟩ := DataW.trod_int Try.underlying3 h0
    obtain ⟨v, e1, _, w1⟩ := DataW.trod_int Try.underlying3 h1
    simp at e0 e1
    exact ⟨u, v, by rw [e0, e1], in64_wf w0, in64_wf w1⟩
theorem cells_frac : Try.prog.cellsOf 26 = 2 := by kernel_rfl
theorem frac_of_trod {H : Type} {enc : TypeId × Value → H} {w : World} {base : Nat} {sp : Nat → Bool} {held : Bool} {m : Nat} {cs : List Value} {x : DataW H × List MemPlace} (h : DataW.trod enc Try.prog w base sp held m 26 cs = some x) : ∃ u v, cs = [.int .i64 u, .int .i64 v] ∧ In64 u ∧ In64 v := by
  obtain ⟨y0, y1, n, rfl, hl, h0, h1⟩ := trod_struct2 Try.underlying26 h
  rw [cells_frac] at hl
  simp only [cellsI] at h0 h1
  match cs, hl with
  | [a, b], _ =>
    obtain ⟨u, e0, _, w0⟩ := DataW.trod_int Try.underlying3 h0
    obtain ⟨v, e1, _, w1⟩ := DataW.trod_int Try.underlying3 h1
    simp at e0 e1
    exact ⟨u, v, by rw [e0, e1], in64_wf w0, in64_wf w1⟩
theorem cells_range : Try.prog.cellsOf 55 = 2 := by kernel_rfl
theorem range_of_trod {H : Type} {enc : TypeId × Value → H} {w : World} {base : Nat} {sp : Nat → Bool} {held : Bool} {m : Nat} {cs : List Value} {x : DataW H × List MemPlace} (h : DataW.trod enc Try.prog w base sp held m 55 cs = some x) : ∃ u v, cs = [.int .i64 u, .int .i64 v] ∧ In64 u ∧ In64 v := by
  obtain ⟨y0, y1, n, rfl, hl, h0, h1⟩ := trod_struct2 Try.underlying55 h
  rw [cells_range] at hl
  simp only [cellsI] at h0 h1
  match cs, hl with
  | [a, b], _ =>
    obtain ⟨u, e0, _, w0⟩ := DataW.trod_int Try.underlying3 h0
    obtain ⟨v, e1, _, w1⟩ := DataW.trod_int Try.underlying3 h1
    simp at e0 e1
    exact ⟨u, v, by rw [e0, e1], in64_wf w0, in64_wf w1⟩
theorem cells_field : Try.prog.cellsOf 121 = 3 := by kernel_rfl
theorem field_of_trod {H : Type} {enc : TypeId × Value → H} {w : World} {base : Nat} {sp : Nat → Bool} {held : Bool} {m : Nat} {cs : List Value} {x : DataW H × List MemPlace} (h : DataW.trod enc Try.prog w base sp held m 121 cs = some x) : ∃ a u v, cs = [.int .i64 a, .int .i64 u, .int .i64 v] ∧ In64 a ∧ In64 u ∧ In64 v := by
  obtain ⟨y0, y1, n, rfl, hl, h0, h1⟩ := trod_struct2 Try.underlying121 h
  rw [cells_field] at hl
  simp only [cellsI, cells_range] at h0 h1
  match cs, hl with
  | [a, b, c], _ =>
    obtain ⟨u, e0, _, w0⟩ := DataW.trod_int Try.underlying3 h0
    obtain ⟨x1, x2, e1, w1, w2⟩ := range_of_trod h1
    simp at e0 e1
    exact ⟨u, x1, x2, by rw [e0, e1.1, e1.2], in64_wf w0, w1, w2⟩
theorem cells_shot : Try.prog.cellsOf 123 = 3 := by kernel_rfl
theorem shot_of_trod {H : Type} {enc : TypeId × Value → H} {w : World} {base : Nat} {sp : Nat → Bool} {held : Bool} {m : Nat} {cs : List Value} {x : DataW H × List MemPlace} (h : DataW.trod enc Try.prog w base sp held m 123 cs = some x) : ∃ a u v, cs = [.int .i64 a, .int .i64 u, .int .i64 v] ∧ In64 a ∧ In64 u ∧ In64 v := by
  obtain ⟨y0, y1, n, rfl, hl, h0, h1⟩ := trod_struct2 Try.underlying123 h
  rw [cells_shot] at hl
  simp only [cellsI, cells_frac] at h0 h1
  match cs, hl with
  | [a, b, c], _ =>
    obtain ⟨u, e0, _, w0⟩ := DataW.trod_int Try.underlying3 h0
    obtain ⟨x1, x2, e1, w1, w2⟩ := frac_of_trod h1
    simp at e0 e1
    exact ⟨u, x1, x2, by rw [e0, e1.1, e1.2], in64_wf w0, w1, w2⟩
section
variable {H : Type} {enc : TypeId × Value → H} {w : World} {base : Nat} {sp : Nat → Bool} {held : Bool}

theorem open_gs_rd {m : Nat} {v : Value} {x : DataW H × List MemPlace} (h : DataW.trod enc Try.prog w base sp held m 22 [v] = some x) :
    ∃ A l c, v = .slice A l.length c ∧ Rd w A (gs l) ∧ l.length ≤ maxLen := by
  rcases Go.Deep.open_slice Try.underlying22 h with ⟨h1, _⟩ | ⟨a, len, cap, m', n, D, Pl, h1, _, hl, hm, hmm, _, hel⟩
  · simp only [List.cons.injEq, and_true] at h1
    exact ⟨none, [], 0, h1, Rd.nil _ _, by simp⟩
  · simp only [List.cons.injEq, and_true] at h1
    have hml : len ≤ m' := by rw [hmm]; split <;> omega
    have hg : ∀ i, i < len → ∃ g : G, w.cell? ((a.add (i * 2)).add 0) = some (.int .i64 g.1) ∧ w.cell? ((a.add (i * 2)).add 1) = some (.int .i64 g.2) := fun i hi => by
      obtain ⟨cs', hc, ht⟩ := hel i (by omega)
      rw [cells_slab] at hc
      obtain ⟨u, v, rfl, _⟩ := slab_of_trod ht
      obtain ⟨_, _, hat⟩ := World.cells?_some hc
      exact ⟨(u, v), hat 0 (by omega), hat 1 (by omega)⟩
    obtain ⟨l, hll, hlp⟩ := list_of_all (P := fun i (g : G) => w.cell? ((a.add (i * 2)).add 0) = some (.int .i64 g.1) ∧ w.cell? ((a.add (i * 2)).add 1) = some (.int .i64 g.2)) len hg
    refine ⟨some a, l, cap, by rw [hll]; exact h1, fun hx => ?_, by omega⟩
    have hp : 0 < l.length := by
      rcases Nat.eq_zero_or_pos l.length with h0 | h0
      · rw [List.eq_nil_of_length_eq_zero h0] at hx; exact absurd rfl hx
      · exact h0
    obtain ⟨b, off, spot⟩ := a
    have hspot : spot = none := by simpa [Addr.add] using World.cell?_spot (hlp 0 hp).1
    subst hspot
    simp only [add_plain] at hlp
    refine ⟨b, off, rfl, World.block_lt_of_cell? _ _ (hlp 0 hp).1, fun j u hu => ?_⟩
    have hj : j < l.length * 2 := by have := (List.getElem?_eq_some_iff.1 hu).1; rwa [gs_length] at this
    have hq : j / 2 < l.length := by omega
    obtain ⟨h0, h1'⟩ := gs_at hq
    have hd : j = j / 2 * 2 + 0 ∨ j = j / 2 * 2 + 1 := by omega
    rcases hd with e | e
    · rw [e] at hu ⊢
      rw [Nat.add_zero] at hu
      rw [h0] at hu
      rw [← hu, ← Nat.add_assoc]
      exact (hlp _ hq).1
    · rw [e] at hu ⊢
      rw [h1'] at hu
      rw [← hu, ← Nat.add_assoc]
      exact (hlp _ hq).2
theorem open_ints_rd {m : Nat} {v : Value} {x : DataW H × List MemPlace} (h : DataW.trod enc Try.prog w base sp held m 71 [v] = some x) :
    ∃ A l c, v = .slice A l.length c ∧ Rd w A (ints l) ∧ l.length ≤ maxLen ∧ ∀ n ∈ l, (Lit.int .i64 n).wf = true := by
  rcases open_ints Try.underlying71 Try.underlying3 cellsI h with ⟨h1, _⟩ | ⟨a, len, cap, zs, h1, _, hl, hm, hz, _, hcell, hwz⟩
  · simp only [List.cons.injEq, and_true] at h1
    exact ⟨none, [], 0, h1, Rd.nil _ _, by simp, fun _ h => by cases h⟩
  · simp only [List.cons.injEq, and_true] at h1
    have hzl : len ≤ zs.length := by rw [hz]; split <;> omega
    refine ⟨some a, zs.take len, cap, by rw [List.length_take, Nat.min_eq_left hzl]; exact h1, fun hx => ?_, by rw [List.length_take]; omega, fun n hn => hwz n (List.mem_of_mem_take hn)⟩
    have hp : 0 < len := by
      rcases Nat.eq_zero_or_pos len with h0 | h0
      · subst h0; simp at hx
      · exact h0
    obtain ⟨b, off, spot⟩ := a
    have hspot : spot = none := by simpa [Addr.add] using World.cell?_spot (hcell 0 (by omega))
    subst hspot
    have hc : ∀ j, j < zs.length → w.cell? ⟨b, off + j, none⟩ = some (.int .i64 (zs.getD j 0)) := fun j hj => by rw [← add_plain]; exact hcell j hj
    refine ⟨b, off, rfl, World.block_lt_of_cell? _ _ (hc 0 (by omega)), fun j u hu => ?_⟩
    have hj : j < (zs.take len).length := by have := (List.getElem?_eq_some_iff.1 hu).1; simpa using this
    have hj2 : j < len := by rw [List.length_take] at hj; omega
    rw [ints_at hj] at hu
    rw [hc j (by omega), ← hu]
    simp [List.getD, show j < zs.length from by omega]
theorem cells_sky : Try.prog.cellsOf 24 = 2 := by kernel_rfl
theorem cells_gs : Try.prog.cellsOf 22 = 1 := by kernel_rfl
theorem cells_is : Try.prog.cellsOf 71 = 1 := by kernel_rfl
theorem sky_of_trod {m : Nat} {cs : List Value} {x : DataW H × List MemPlace} (h : DataW.trod enc Try.prog w base sp held m 24 cs = some x) : ∃ b A l c, cs = [.int .i64 b, .slice A (List.length l) c] ∧ In64 b ∧ Rd w A (gs l) ∧ l.length ≤ maxLen := by
  obtain ⟨y0, y1, n, rfl, hl, h0, h1⟩ := trod_struct2 Try.underlying24 h
  rw [cells_sky] at hl
  simp only [cellsI, cells_gs] at h0 h1
  match cs, hl with
  | [a, b], _ =>
    obtain ⟨u, e0, _, w0⟩ := DataW.trod_int Try.underlying3 h0
    simp at e0 h1
    obtain ⟨A, l, c, rfl, hr, hm⟩ := open_gs_rd h1
    exact ⟨u, A, l, c, by rw [e0], in64_wf w0, hr, hm⟩
theorem cells_task : Try.prog.cellsOf 95 = 4 := by kernel_rfl
theorem task_of_trod {m : Nat} {cs : List Value} {x : DataW H × List MemPlace} (h : DataW.trod enc Try.prog w base sp held m 95 cs = some x) : ∃ g lo hi A l c, cs = [.int .i64 g, .int .i64 lo, .int .i64 hi, .slice A (List.length l) c] ∧ In64 g ∧ In64 lo ∧ In64 hi ∧ Rd w A (ints l) ∧ l.length ≤ maxLen ∧ (∀ n ∈ l, In64 n) := by
  obtain ⟨y0, y1, y2, n, rfl, hl, h0, h1, h2⟩ := Go.Deep.trod_struct3 Try.underlying95 h
  rw [cells_task] at hl
  simp only [cellsI, cells_range, cells_is] at h0 h1 h2
  match cs, hl with
  | [a, b, c, d], _ =>
    obtain ⟨u, e0, _, w0⟩ := DataW.trod_int Try.underlying3 h0
    obtain ⟨x1, x2, e1, w1, w2⟩ := range_of_trod h1
    simp at e0 e1 h2
    obtain ⟨A, l, c', rfl, hr, hm, hw⟩ := open_ints_rd h2
    exact ⟨u, x1, x2, A, l, c', by rw [e0, e1.1, e1.2], in64_wf w0, w1, w2, hr, hm, fun n hn => in64_wf (hw n hn)⟩
theorem arg_struct {P : Program} {r : Reach} {b0 : Nat} {t : TypeId} {fs : Array Field} {v : Value} {d : DataW H} {p : List MemPlace} (hs : P.underlying t = some (.struct fs)) (hv : Value.okWide P w r b0 t v) (h : DataW.Trod enc P w base sp held t v d p) :
    ∃ cs : List Value, v = .agg cs.toArray ∧ ∃ m x, DataW.trod enc P w base sp held m t cs = some x := by
  obtain ⟨cs, rfl, hsz⟩ := okWide_struct hs hv
  obtain ⟨fuel, hf⟩ := h
  exact ⟨cs.toList, by simp, fuel, _, by simpa [Value.cells] using hf⟩
theorem arg_array {P : Program} {r : Reach} {b0 : Nat} {t e : TypeId} {k : Nat} {v : Value} {d : DataW H} {p : List MemPlace} (hs : P.underlying t = some (.array k e)) (hv : Value.okWide P w r b0 t v) (h : DataW.Trod enc P w base sp held t v d p) :
    ∃ cs : List Value, v = .agg cs.toArray ∧ ∃ m x, DataW.trod enc P w base sp held m t cs = some x := by
  simp only [Value.okWide, hs] at hv
  obtain ⟨cs, rfl, _⟩ := hv
  obtain ⟨fuel, hf⟩ := h
  exact ⟨cs.toList, by simp, fuel, _, by simpa [Value.cells] using hf⟩
end
/-- A slice as a parameter: its one cell. -/
theorem trod_of_slice {H : Type} {enc : TypeId × Value → H} {w : World} {base b0 : Nat} {sp : Nat → Bool} {held : Bool} {r : Reach} {t e : TypeId} {v : Value} {d : DataW H} {p : List MemPlace} (ht : Try.prog.underlying t = some (.slice e))
    (hv : Value.okWide Try.prog w r b0 t v) (h : DataW.Trod enc Try.prog w base sp held t v d p) : ∃ m, DataW.trod enc Try.prog w base sp held m t [v] = some (d, p) := by
  obtain ⟨a, n, c, rfl⟩ := okWide_slice ht hv
  obtain ⟨m, hm⟩ := h
  exact ⟨m, hm⟩
end Go.Proofs.Ytkcjiejdjdcbeaa
