/-
  No cell of these rows narrows 'for every input' (looked for: loops, veiled, ifaces, maps, wideKeys, modest, calm, conditions, laid).
  DERIVED. THE GIVEN ROWS OF THIS SEAT. 4 by the template 'for every input the law returns true; each argument reads behind the call as it read before'; 0 by the template 'total and deterministic' (their statements: YtohdjhdkmdhhcaaTotals.lean).
  GIVEN WITH THE SEED: the statements are not yours to turn. If you find one false, say at which input.
  Laid BY PROGRAM, IN A SANDBOX (cutbox-rows.mjs): the forced cells as the released guide's own fill.sh prints them over the translation 6f8c8ea765f92c04… (all of the seat's roots in one cut). By AI agents, Wed Nov 11 2026. No macro, syntax, notation, axiom, sorry.
-/
import Derived.Test.YtohdjhdkmdhhcaaChecked
import GoSem.Claim
import GoSem.ClaimJoined
import GoSem.ClaimMapViews
import Derived.JoinedTies
import Derived.KernelRfl
namespace Go.Proofs.Ytohdjhdkmdhhcaa
/- THE CELL 'sum', in the pinned program and in every row, IS THE sha256 OF THE DUMP (.gsa) THAT YtohdjhdkmdhhcaaProg.lean LOADS. Nothing in Lean hashes anything: it is a label: what it is worth is what the hold of that sum in a sandbox is worth. -/
noncomputable def Try.pinned : Pinned := { name := "ytohdjhdkmdhhcaa", sum := "6f8c8ea765f92c0491024385e565352b345e65ebee062c48508a62b872bb200e", checked := Try.checked }
namespace Rows
def none {H : Type} : Left H := { results := [], args := [] }

/-- 'skywavelaw09.StationQueues': WHATEVER THE INPUT: true; the input reads as it did. -/
def stationQueuesSpec : ChangeSpec := { name := "stationQueues", fn := fun _ => fun
  | [d] => { results := [.lit (.bool true)], args := [d] }
  | _ => none }
def stationQueuesRow : OpenClaim := { program := "ytohdjhdkmdhhcaa", sum := "6f8c8ea765f92c0491024385e565352b345e65ebee062c48508a62b872bb200e", func := "skywave/skywavelaw09.StationQueues", spec := "stationQueues", unfollowed := true, recurses := true, apart := false }
def StationQueuesSaid : Prop := stationQueuesRow.holds Try.pinned (OpenSpec.ofChange stationQueuesSpec)

/-- ITS FALSE NEIGHBOUR: 'it returns false'. Refute it at one input. -/
def stationQueuesWrong : ChangeSpec := { name := "stationQueues", fn := fun _ => fun
  | [d] => { results := [.lit (.bool false)], args := [d] }
  | _ => none }
def StationQueuesWrongFalsely : Prop := stationQueuesRow.holds Try.pinned (OpenSpec.ofChange stationQueuesWrong)

/-- 'skywavelaw09.StationPuts': WHATEVER THE INPUT: true; the input reads as it did. -/
def stationPutsSpec : ChangeSpec := { name := "stationPuts", fn := fun _ => fun
  | [d1, d2, d3] => { results := [.lit (.bool true)], args := [d1, d2, d3] }
  | _ => none }
def stationPutsRow : OpenClaim := { program := "ytohdjhdkmdhhcaa", sum := "6f8c8ea765f92c0491024385e565352b345e65ebee062c48508a62b872bb200e", func := "skywave/skywavelaw09.StationPuts", spec := "stationPuts", unfollowed := true, recurses := true, apart := false }
def StationPutsSaid : Prop := stationPutsRow.holds Try.pinned (OpenSpec.ofChange stationPutsSpec)

/-- ITS FALSE NEIGHBOUR: 'it returns false'. Refute it at one input. -/
def stationPutsWrong : ChangeSpec := { name := "stationPuts", fn := fun _ => fun
  | [d1, d2, d3] => { results := [.lit (.bool false)], args := [d1, d2, d3] }
  | _ => none }
def StationPutsWrongFalsely : Prop := stationPutsRow.holds Try.pinned (OpenSpec.ofChange stationPutsWrong)

/-- 'skywavelaw09.StationKept': WHATEVER THE INPUT: true; the input reads as it did. -/
def stationKeptSpec : ChangeSpec := { name := "stationKept", fn := fun _ => fun
  | [d1, d2, d3] => { results := [.lit (.bool true)], args := [d1, d2, d3] }
  | _ => none }
def stationKeptRow : OpenClaim := { program := "ytohdjhdkmdhhcaa", sum := "6f8c8ea765f92c0491024385e565352b345e65ebee062c48508a62b872bb200e", func := "skywave/skywavelaw09.StationKept", spec := "stationKept", unfollowed := true, recurses := true, apart := false }
def StationKeptSaid : Prop := stationKeptRow.holds Try.pinned (OpenSpec.ofChange stationKeptSpec)

/-- ITS FALSE NEIGHBOUR: 'it returns false'. Refute it at one input. -/
def stationKeptWrong : ChangeSpec := { name := "stationKept", fn := fun _ => fun
  | [d1, d2, d3] => { results := [.lit (.bool false)], args := [d1, d2, d3] }
  | _ => none }
def StationKeptWrongFalsely : Prop := stationKeptRow.holds Try.pinned (OpenSpec.ofChange stationKeptWrong)

/-- 'skywavelaw09.StationSent': WHATEVER THE INPUT: true; the input reads as it did. -/
def stationSentSpec : ChangeSpec := { name := "stationSent", fn := fun _ => fun
  | [d1, d2] => { results := [.lit (.bool true)], args := [d1, d2] }
  | _ => none }
def stationSentRow : OpenClaim := { program := "ytohdjhdkmdhhcaa", sum := "6f8c8ea765f92c0491024385e565352b345e65ebee062c48508a62b872bb200e", func := "skywave/skywavelaw09.StationSent", spec := "stationSent", unfollowed := true, recurses := true, apart := false }
def StationSentSaid : Prop := stationSentRow.holds Try.pinned (OpenSpec.ofChange stationSentSpec)

/-- ITS FALSE NEIGHBOUR: 'it returns false'. Refute it at one input. -/
def stationSentWrong : ChangeSpec := { name := "stationSent", fn := fun _ => fun
  | [d1, d2] => { results := [.lit (.bool false)], args := [d1, d2] }
  | _ => none }
def StationSentWrongFalsely : Prop := stationSentRow.holds Try.pinned (OpenSpec.ofChange stationSentWrong)

/- THE SECOND FORM. 'bulk': how many values and letters a reading holds, each counted each time it is reached (what is shared counts as often as it is met; a slice's spare places count too). A statement '..UptoSaid' is the law's where the arguments, and the package variables that the reading takes, are together of bulk at most 1048576: NARROWER than '..Said'. Prove '..Said' where nothing that the law and all that it calls make is longer than what came in: it says more and counts as full. Else prove '..UptoSaid'. A law counts once. -/
mutual
def uptoBulk {H : Type} : DataW H → Nat
  | .lit (.string bytes) => bytes.length + 1
  | .lit _ => 1
  | .nil => 1
  | .ptr d => uptoBulk d + 1
  | .slice elems spare => uptoBulkAll elems + uptoBulkAll spare + 1
  | .agg parts => uptoBulkAll parts + 1
  | .iface _ d => uptoBulk d + 1
  | .map entries => uptoBulkEntries entries + 1
  | .held _ => 1
def uptoBulkAll {H : Type} : List (DataW H) → Nat
  | [] => 0
  | d :: r => uptoBulk d + uptoBulkAll r
def uptoBulkEntries {H : Type} : List (Lit × DataW H) → Nat
  | [] => 0
  | x :: r => uptoBulkEntry x + uptoBulkEntries r
def uptoBulkEntry {H : Type} : Lit × DataW H → Nat
  | (.string bytes, d) => bytes.length + uptoBulk d + 1
  | (_, d) => uptoBulk d + 1
 end
def uptoSmall : (H : Type) → List (DataW H) → Bool := fun _ ds => decide (uptoBulkAll ds ≤ 1048576)
def OpenSpec.upto (s : _root_.Go.ChangeSpec) : _root_.Go.OpenSpec := { _root_.Go.OpenSpec.ofChange s with cond := some uptoSmall }

/-- 'skywavelaw09.StationQueues', WHERE WHAT IT READS IS OF BULK AT MOST 1048576: true; the input reads as it did. -/
def stationQueuesUptoRow : OpenClaim := { program := "ytohdjhdkmdhhcaa", sum := "6f8c8ea765f92c0491024385e565352b345e65ebee062c48508a62b872bb200e", func := "skywave/skywavelaw09.StationQueues", spec := "stationQueues", unfollowed := true, recurses := true, apart := false, narrowed := true }
def StationQueuesUptoSaid : Prop := stationQueuesUptoRow.holds Try.pinned (OpenSpec.upto stationQueuesSpec)

/-- 'skywavelaw09.StationPuts', WHERE WHAT IT READS IS OF BULK AT MOST 1048576: true; the input reads as it did. -/
def stationPutsUptoRow : OpenClaim := { program := "ytohdjhdkmdhhcaa", sum := "6f8c8ea765f92c0491024385e565352b345e65ebee062c48508a62b872bb200e", func := "skywave/skywavelaw09.StationPuts", spec := "stationPuts", unfollowed := true, recurses := true, apart := false, narrowed := true }
def StationPutsUptoSaid : Prop := stationPutsUptoRow.holds Try.pinned (OpenSpec.upto stationPutsSpec)

/-- 'skywavelaw09.StationKept', WHERE WHAT IT READS IS OF BULK AT MOST 1048576: true; the input reads as it did. -/
def stationKeptUptoRow : OpenClaim := { program := "ytohdjhdkmdhhcaa", sum := "6f8c8ea765f92c0491024385e565352b345e65ebee062c48508a62b872bb200e", func := "skywave/skywavelaw09.StationKept", spec := "stationKept", unfollowed := true, recurses := true, apart := false, narrowed := true }
def StationKeptUptoSaid : Prop := stationKeptUptoRow.holds Try.pinned (OpenSpec.upto stationKeptSpec)

/-- 'skywavelaw09.StationSent', WHERE WHAT IT READS IS OF BULK AT MOST 1048576: true; the input reads as it did. -/
def stationSentUptoRow : OpenClaim := { program := "ytohdjhdkmdhhcaa", sum := "6f8c8ea765f92c0491024385e565352b345e65ebee062c48508a62b872bb200e", func := "skywave/skywavelaw09.StationSent", spec := "stationSent", unfollowed := true, recurses := true, apart := false, narrowed := true }
def StationSentUptoSaid : Prop := stationSentUptoRow.holds Try.pinned (OpenSpec.upto stationSentSpec)

end Rows
end Go.Proofs.Ytohdjhdkmdhhcaa
