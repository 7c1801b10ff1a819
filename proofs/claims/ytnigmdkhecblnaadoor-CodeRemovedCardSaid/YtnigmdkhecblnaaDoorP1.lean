/- Contracts: codes with opposite numbers, two codes by turns, copies that the call owns. -/
import Derived.Test.YtnigmdkhecblnaaDoorKp
import Derived.Test.YtnigmdkhecblnaaDoorMathE
import Derived.Test.YtnigmdkhecblnaaDoorOrdM
set_option linter.unusedSimpArgs false
set_option linter.unusedVariables false
namespace Go.Proofs.YtnigmdkhecblnaaDoor
open Go.RowKit
set_option maxRecDepth 100000

theorem map_range_getD (f : Int → Int) (l : List Int) : (List.range l.length).map (fun i => f (l.getD i 0)) = l.map f := by
  refine List.ext_getElem (by simp) fun i h1 h2 => ?_
  have h : i < l.length := by simpa using h2
  simp [List.getD, h]

theorem negL_range (l : List Int) : (List.range l.length).map (fun i => -(l.getD i 0)) = negL l := map_range_getD (fun x => -x) l
theorem negL_small {l : List Int} (h : Small l) : Small (negL l) := fun x hx => by
  obtain ⟨y, hy, rfl⟩ := List.mem_map.1 hx
  have := h y hy
  omega

end Go.Proofs.YtnigmdkhecblnaaDoor
