/-
  NARROWER THAN 'FOR EVERY INPUT', by the rows' own cells (each row's printed sentence says how): CodeCleaned: laid · CodeRemoved: laid · TopCodeLines: laid.
  DERIVED. THE GIVEN ROWS OF THIS SEAT. 3 by the template 'for every input the law returns true; each argument reads behind the call as it read before'; 0 by the template 'total and deterministic' (their statements: YtnigmdkhecblnaaDoorTotals.lean).
  GIVEN WITH THE SEED: the statements are not yours to turn. If you find one false, say at which input.
  Laid BY PROGRAM, IN A SANDBOX (cutbox-rows.mjs): the forced cells as the released guide's own fill.sh prints them over the translation 26d89c7ea0f3d54d… (all of the seat's roots in one cut). By AI agents, Wed Nov 11 2026. No macro, syntax, notation, axiom, sorry.
-/
import Derived.Test.YtnigmdkhecblnaaDoorChecked
import GoSem.Claim
import GoSem.ClaimJoined
import GoSem.ClaimMapViews
import Derived.JoinedTies
import Derived.KernelRfl
namespace Go.Proofs.YtnigmdkhecblnaaDoor
/- THE CELL 'sum', in the pinned program and in every row, IS THE sha256 OF THE DUMP (.gsa) THAT YtnigmdkhecblnaaDoorProg.lean LOADS. Nothing in Lean hashes anything: it is a label: what it is worth is what the hold of that sum in a sandbox is worth. -/
noncomputable def Tryd.pinned : Pinned := { name := "ytnigmdkhecblnaadoor", sum := "26d89c7ea0f3d54de60cbdb99813ba71c5329188ab8229778a129116e9efba86", checked := Tryd.checked }
namespace Rows
def none {H : Type} : Left H := { results := [], args := [] }

/- WHAT THE LISTED PACKAGE-LEVEL VARIABLES READ AS WHEN THE CALL BEGINS. Each datum BY PROGRAM (the guide's laid-datum.mjs) off the statement by which the dump's own 'gosem.cut.vars' lays the variable. In a bare row this is a premise. The card (YtnigmdkhecblnaaDoorCards.lean) ties it to the program's text. -/
def laid_skywave_code_powersOfI {H : Type} : DataW H := .agg [.agg [.lit (.int .i64 1), .lit (.int .i64 0)], .agg [.lit (.int .i64 0), .lit (.int .i64 1)], .agg [.lit (.int .i64 (-1)), .lit (.int .i64 0)], .agg [.lit (.int .i64 0), .lit (.int .i64 (-1))]]

/-- 'skywavelaw01.CodeCleaned': WHATEVER THE INPUT: true; the input reads as it did. -/
def codeCleanedSpec : ChangeSpec := { name := "codeCleaned", fn := fun _ => fun
  | [d1, d2] => { results := [.lit (.bool true)], args := [d1, d2] }
  | _ => none }
def codeCleanedRow : OpenClaim := { program := "ytnigmdkhecblnaadoor", sum := "26d89c7ea0f3d54de60cbdb99813ba71c5329188ab8229778a129116e9efba86", func := "skywave/skywavelaw01.CodeCleaned", spec := "codeCleaned", unfollowed := true, recurses := true, named := ["skywave/code.powersOfI"], apart := false, laid := [("skywave/code.powersOfI", laid_skywave_code_powersOfI)] }
def CodeCleanedSaid : Prop := codeCleanedRow.holds Tryd.pinned (OpenSpec.ofChange codeCleanedSpec)

/-- ITS FALSE NEIGHBOUR: 'it returns false'. Refute it at one input. -/
def codeCleanedWrong : ChangeSpec := { name := "codeCleaned", fn := fun _ => fun
  | [d1, d2] => { results := [.lit (.bool false)], args := [d1, d2] }
  | _ => none }
def CodeCleanedWrongFalsely : Prop := codeCleanedRow.holds Tryd.pinned (OpenSpec.ofChange codeCleanedWrong)

/-- 'skywavelaw01.CodeRemoved': WHATEVER THE INPUT: true; the input reads as it did. -/
def codeRemovedSpec : ChangeSpec := { name := "codeRemoved", fn := fun _ => fun
  | [d1, d2, d3] => { results := [.lit (.bool true)], args := [d1, d2, d3] }
  | _ => none }
def codeRemovedRow : OpenClaim := { program := "ytnigmdkhecblnaadoor", sum := "26d89c7ea0f3d54de60cbdb99813ba71c5329188ab8229778a129116e9efba86", func := "skywave/skywavelaw01.CodeRemoved", spec := "codeRemoved", unfollowed := true, recurses := true, named := ["skywave/code.powersOfI"], apart := false, laid := [("skywave/code.powersOfI", laid_skywave_code_powersOfI)] }
def CodeRemovedSaid : Prop := codeRemovedRow.holds Tryd.pinned (OpenSpec.ofChange codeRemovedSpec)

/-- ITS FALSE NEIGHBOUR: 'it returns false'. Refute it at one input. -/
def codeRemovedWrong : ChangeSpec := { name := "codeRemoved", fn := fun _ => fun
  | [d1, d2, d3] => { results := [.lit (.bool false)], args := [d1, d2, d3] }
  | _ => none }
def CodeRemovedWrongFalsely : Prop := codeRemovedRow.holds Tryd.pinned (OpenSpec.ofChange codeRemovedWrong)

/-- 'skywavetop.TopCodeLines': WHATEVER THE INPUT: true; the input reads as it did. -/
def topCodeLinesSpec : ChangeSpec := { name := "topCodeLines", fn := fun _ => fun
  | [d1, d2] => { results := [.lit (.bool true)], args := [d1, d2] }
  | _ => none }
def topCodeLinesRow : OpenClaim := { program := "ytnigmdkhecblnaadoor", sum := "26d89c7ea0f3d54de60cbdb99813ba71c5329188ab8229778a129116e9efba86", func := "skywave/skywavetop.TopCodeLines", spec := "topCodeLines", unfollowed := true, recurses := true, named := ["skywave/code.powersOfI"], apart := false, laid := [("skywave/code.powersOfI", laid_skywave_code_powersOfI)] }
def TopCodeLinesSaid : Prop := topCodeLinesRow.holds Tryd.pinned (OpenSpec.ofChange topCodeLinesSpec)

/-- ITS FALSE NEIGHBOUR: 'it returns false'. Refute it at one input. -/
def topCodeLinesWrong : ChangeSpec := { name := "topCodeLines", fn := fun _ => fun
  | [d1, d2] => { results := [.lit (.bool false)], args := [d1, d2] }
  | _ => none }
def TopCodeLinesWrongFalsely : Prop := topCodeLinesRow.holds Tryd.pinned (OpenSpec.ofChange topCodeLinesWrong)

/- THE SECOND FORM. 'bulk': how many values and letters a reading holds, each counted each time it is reached (what is shared counts as often as it is met; a slice's spare places count too). A statement '..UptoSaid' is the law's where the arguments, and the package variables that the reading takes, are together of bulk at most 1048576: NARROWER than '..Said'. Prove '..Said' where nothing that the law and all that it calls make is longer than what came in: it says more and counts as full. Else prove '..UptoSaid'. A law counts once. -/
mutual
def uptoBulk {H : Type} : DataW H → Nat
  | .lit (.string bytes) => bytes.length + 1
  | .lit _ => 1
  | .nil => 1
  | .ptr d => uptoBulk d + 1
  | .slice elems spare => uptoBulkAll elems + uptoBulkAll spare + 1
  | .agg parts => uptoBulkAll parts + 1
  | .iface _ d => uptoBulk d + 1
  | .map entries => uptoBulkEntries entries + 1
  | .held _ => 1
def uptoBulkAll {H : Type} : List (DataW H) → Nat
  | [] => 0
  | d :: r => uptoBulk d + uptoBulkAll r
def uptoBulkEntries {H : Type} : List (Lit × DataW H) → Nat
  | [] => 0
  | x :: r => uptoBulkEntry x + uptoBulkEntries r
def uptoBulkEntry {H : Type} : Lit × DataW H → Nat
  | (.string bytes, d) => bytes.length + uptoBulk d + 1
  | (_, d) => uptoBulk d + 1
 end
def uptoSmall : (H : Type) → List (DataW H) → Bool := fun _ ds => decide (uptoBulkAll ds ≤ 1048576)
def OpenSpec.upto (s : _root_.Go.ChangeSpec) : _root_.Go.OpenSpec := { _root_.Go.OpenSpec.ofChange s with cond := some uptoSmall }

/-- 'skywavelaw01.CodeCleaned', WHERE WHAT IT READS IS OF BULK AT MOST 1048576: true; the input reads as it did. -/
def codeCleanedUptoRow : OpenClaim := { program := "ytnigmdkhecblnaadoor", sum := "26d89c7ea0f3d54de60cbdb99813ba71c5329188ab8229778a129116e9efba86", func := "skywave/skywavelaw01.CodeCleaned", spec := "codeCleaned", unfollowed := true, recurses := true, named := ["skywave/code.powersOfI"], apart := false, laid := [("skywave/code.powersOfI", laid_skywave_code_powersOfI)], narrowed := true }
def CodeCleanedUptoSaid : Prop := codeCleanedUptoRow.holds Tryd.pinned (OpenSpec.upto codeCleanedSpec)

/-- 'skywavelaw01.CodeRemoved', WHERE WHAT IT READS IS OF BULK AT MOST 1048576: true; the input reads as it did. -/
def codeRemovedUptoRow : OpenClaim := { program := "ytnigmdkhecblnaadoor", sum := "26d89c7ea0f3d54de60cbdb99813ba71c5329188ab8229778a129116e9efba86", func := "skywave/skywavelaw01.CodeRemoved", spec := "codeRemoved", unfollowed := true, recurses := true, named := ["skywave/code.powersOfI"], apart := false, laid := [("skywave/code.powersOfI", laid_skywave_code_powersOfI)], narrowed := true }
def CodeRemovedUptoSaid : Prop := codeRemovedUptoRow.holds Tryd.pinned (OpenSpec.upto codeRemovedSpec)

/-- 'skywavetop.TopCodeLines', WHERE WHAT IT READS IS OF BULK AT MOST 1048576: true; the input reads as it did. -/
def topCodeLinesUptoRow : OpenClaim := { program := "ytnigmdkhecblnaadoor", sum := "26d89c7ea0f3d54de60cbdb99813ba71c5329188ab8229778a129116e9efba86", func := "skywave/skywavetop.TopCodeLines", spec := "topCodeLines", unfollowed := true, recurses := true, named := ["skywave/code.powersOfI"], apart := false, laid := [("skywave/code.powersOfI", laid_skywave_code_powersOfI)], narrowed := true }
def TopCodeLinesUptoSaid : Prop := topCodeLinesUptoRow.holds Tryd.pinned (OpenSpec.upto topCodeLinesSpec)

end Rows
end Go.Proofs.YtnigmdkhecblnaaDoor
