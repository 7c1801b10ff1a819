/- Contracts: the interleaved pair, as the reference has it. Written by tools/genp7.py. -/
import Derived.Test.YtnigmdkhecblnaaDoorP6
set_option linter.unusedSimpArgs false
set_option linter.unusedVariables false
namespace Go.Proofs.YtnigmdkhecblnaaDoor
open Go.RowKit
set_option maxRecDepth 100000


section
variable {w W W' : World} {p r q : Nat} {F : List Value} {Va Vb Ra Rb R' : Value} {n m n' : Nat} {la lb l' : List Value}
theorem blk_kept' {g : Nat} {e : TypeId} {cs : List Value} {row : Option Nat} (h : Blk W g e cs) (hg : W.grownBy W' row) (hne : some g ≠ row) : Blk W' g e cs := (hg.block g h.lt hne).trans h
end

end Go.Proofs.YtnigmdkhecblnaaDoor
