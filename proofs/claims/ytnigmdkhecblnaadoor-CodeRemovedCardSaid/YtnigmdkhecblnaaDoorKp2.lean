/- The first error of a list just made, behind a draw. No condition. -/
import Derived.Test.YtnigmdkhecblnaaDoorKp
import Derived.Test.YtnigmdkhecblnaaDoorMF
set_option linter.unusedSimpArgs false
set_option linter.unusedVariables false
namespace Go.Proofs.YtnigmdkhecblnaaDoor
open Go.RowKit
theorem firstError_2d (a b : Int) (w : World) : Calls Tryd.prog 39 #[.slice (some ⟨w.heap.size, 0, none⟩) 2 2] (w.alloc (.cells #[.int .i64 a, .int .i64 b] 28)).drew fun r w' => r = .returned (.int .i64 (firstE [a, b])) ∧ (w.alloc (.cells #[.int .i64 a, .int .i64 b] 28)).drew = w' := firstError_2 a b w.drew
theorem firstError_3d (a b c : Int) (w : World) : Calls Tryd.prog 39 #[.slice (some ⟨w.heap.size, 0, none⟩) 3 3] (w.alloc (.cells #[.int .i64 a, .int .i64 b, .int .i64 c] 28)).drew fun r w' => r = .returned (.int .i64 (firstE [a, b, c])) ∧ (w.alloc (.cells #[.int .i64 a, .int .i64 b, .int .i64 c] 28)).drew = w' := firstError_3 a b c w.drew
end Go.Proofs.YtnigmdkhecblnaaDoor
