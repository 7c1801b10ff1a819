/- Arguments opened: two whole numbers in an array. No condition. -/
import Derived.Test.YtkcjiejdjdcbeaaRopen
set_option linter.unusedSimpArgs false
set_option linter.unusedVariables false
namespace Go.Proofs.Ytkcjiejdjdcbeaa
open Go.RowKit Go.ChangeShapes Go.WideShapes Go.ChangeAt
set_option maxRecDepth 100000

theorem cells_twoI : Try.prog.cellsOf 83 = 2 := by kernel_rfl
theorem under_twoI : Try.prog.underlying 83 = some (.array 2 3) := by kernel_rfl
theorem twoI_of_trod {H : Type} {enc : TypeId × Value → H} {w : World} {base : Nat} {sp : Nat → Bool} {held : Bool} {m : Nat} {cs : List Value} {x : DataW H × List MemPlace} (h : DataW.trod enc Try.prog w base sp held m 83 cs = some x) : ∃ a b, cs = [.int .i64 a, .int .i64 b] ∧ In64 a ∧ In64 b := by
  obtain ⟨xs, n, _, rfl, hl, hlen, hf⟩ := DataW.trod_array under_twoI h
  rw [cells_twoI] at hl
  simp only [cellsI] at hf
  match cs, hl with
  | [a, b], _ =>
    match xs, hlen with
    | [y0, y1], _ =>
      have h0 : DataW.trod enc Try.prog w base sp held n 3 [a] = some y0 := by simpa using hf 0 (by decide)
      have h1 : DataW.trod enc Try.prog w base sp held n 3 [b] = some y1 := by simpa using hf 1 (by decide)
      obtain ⟨u, e0, _, w0⟩ := DataW.trod_int Try.underlying3 h0
      obtain ⟨v, e1, _, w1⟩ := DataW.trod_int Try.underlying3 h1
      simp at e0 e1
      exact ⟨u, v, by rw [e0, e1], in64_wf w0, in64_wf w1⟩
end Go.Proofs.Ytkcjiejdjdcbeaa
