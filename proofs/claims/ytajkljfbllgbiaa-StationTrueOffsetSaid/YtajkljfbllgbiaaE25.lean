/- The law of the true offset, whole. -/
import Derived.Test.YtajkljfbllgbiaaE24
set_option linter.unusedSimpArgs false
set_option linter.unusedVariables false
set_option linter.unusedSimpArgs false
set_option linter.unusedVariables false
namespace Go.Proofs.Ytajkljfbllgbiaa
open Go.RowKit
set_option maxRecDepth 100000
theorem trueOffLaw_c (off ch : Int) (A1 A2 A3 : Option Addr) (c1 c2 c3 : Nat) (Aa Bb Hh : List Int) (D T : Int) (w : World) (hA : Rd w A1 (ints Aa)) (hB : Rd w A2 (ints Bb)) (hH : Rd w A3 (ints Hh)) (m1 : Aa.length ≤ maxLen) (m2 : Bb.length ≤ maxLen) (m3 : Hh.length ≤ maxLen) :
    Calls Try.prog 5 #[.agg #[.int .i64 off, .int .i64 ch, .slice A1 Aa.length c1, .slice A2 Bb.length c2, .slice A3 Hh.length c3], .int .i64 D, .int .i64 T] w fun r w' => r = .returned (.bool true) ∧ Below w.heap.size w w' := by
  by_cases h : Asked off ch Aa.length Bb.length Hh.length D T
  · obtain ⟨n0, n1, e2, e3, h5, h6, h7, h8⟩ := h
    rw [e2, e3]
    exact trueOff_good off ch A1 A2 A3 Aa.length c1 c2 c3 Aa Bb Hh D T w hA hB hH rfl e2 e3 ⟨n0, n1, rfl, rfl, h5, h6, h7, h8⟩
  · exact trueOff_bad off ch A1 A2 A3 _ _ _ c1 c2 c3 D T w ⟨m1, m2, m3⟩ h
end Go.Proofs.Ytajkljfbllgbiaa
