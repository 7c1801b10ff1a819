/- Arguments opened: two fractions in an array. No condition. -/
import Derived.Test.YtkcjiejdjdcbeaaRopen
set_option linter.unusedSimpArgs false
set_option linter.unusedVariables false
namespace Go.Proofs.Ytkcjiejdjdcbeaa
open Go.RowKit Go.ChangeShapes Go.WideShapes Go.ChangeAt
set_option maxRecDepth 100000

theorem cells_two : Try.prog.cellsOf 80 = 4 := by kernel_rfl
theorem under_two : Try.prog.underlying 80 = some (.array 2 26) := by kernel_rfl
theorem two_of_trod {H : Type} {enc : TypeId × Value → H} {w : World} {base : Nat} {sp : Nat → Bool} {held : Bool} {m : Nat} {cs : List Value} {x : DataW H × List MemPlace} (h : DataW.trod enc Try.prog w base sp held m 80 cs = some x) : ∃ a b c d, cs = [.int .i64 a, .int .i64 b, .int .i64 c, .int .i64 d] ∧ In64 a ∧ In64 b ∧ In64 c ∧ In64 d := by
  obtain ⟨xs, n, _, rfl, hl, hlen, hf⟩ := DataW.trod_array under_two h
  rw [cells_two] at hl
  simp only [cells_frac] at hf
  match cs, hl with
  | [a, b, c, d], _ =>
    match xs, hlen with
    | [y0, y1], _ =>
      have h0 : DataW.trod enc Try.prog w base sp held n 26 [a, b] = some y0 := by simpa using hf 0 (by decide)
      have h1 : DataW.trod enc Try.prog w base sp held n 26 [c, d] = some y1 := by simpa using hf 1 (by decide)
      obtain ⟨u, v, e0, w0, w1⟩ := frac_of_trod h0
      obtain ⟨x1, x2, e1, w2, w3⟩ := frac_of_trod h1
      simp at e0 e1
      exact ⟨u, v, x1, x2, by rw [e0.1, e0.2, e1.1, e1.2], w0, w1, w2, w3⟩
end Go.Proofs.Ytkcjiejdjdcbeaa
