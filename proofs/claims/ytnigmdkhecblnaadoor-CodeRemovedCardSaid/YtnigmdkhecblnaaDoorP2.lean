/- Contracts: the library's Grow from nothing and Concat of two slices. -/
import Derived.Test.YtnigmdkhecblnaaDoorP1
import Derived.Lib.AppendZerosOnto
import Derived.Lib.Walk
import Derived.Lib.SliceRun
set_option linter.unusedSimpArgs false
set_option linter.unusedVariables false
namespace Go.Proofs.YtnigmdkhecblnaaDoor
open Go.RowKit
set_option maxRecDepth 100000

end Go.Proofs.YtnigmdkhecblnaaDoor
