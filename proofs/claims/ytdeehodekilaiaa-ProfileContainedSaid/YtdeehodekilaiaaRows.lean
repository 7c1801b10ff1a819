/-
  No cell of these rows narrows 'for every input' (looked for: loops, veiled, ifaces, maps, wideKeys, modest, calm, conditions, laid).
  DERIVED. THE GIVEN ROWS OF THIS SEAT. 3 by the template 'for every input the law returns true; each argument reads behind the call as it read before'; 0 by the template 'total and deterministic' (their statements: YtdeehodekilaiaaTotals.lean).
  GIVEN WITH THE SEED: the statements are not yours to turn. If you find one false, say at which input.
  Laid BY PROGRAM, IN A SANDBOX (cutbox-rows.mjs): the forced cells as the released guide's own fill.sh prints them over the translation b5bd74c810a4783b… (all of the seat's roots in one cut). By AI agents, Wed Nov 11 2026. No macro, syntax, notation, axiom, sorry.
-/
import Derived.Test.YtdeehodekilaiaaChecked
import GoSem.Claim
import GoSem.ClaimJoined
import GoSem.ClaimMapViews
import Derived.JoinedTies
import Derived.KernelRfl
namespace Go.Proofs.Ytdeehodekilaiaa
/- THE CELL 'sum', in the pinned program and in every row, IS THE sha256 OF THE DUMP (.gsa) THAT YtdeehodekilaiaaProg.lean LOADS. Nothing in Lean hashes anything: it is a label: what it is worth is what the hold of that sum in a sandbox is worth. -/
noncomputable def Try.pinned : Pinned := { name := "ytdeehodekilaiaa", sum := "b5bd74c810a4783b3828d85910a724ef90178b8a626ac1feaaf12231dce96f1d", checked := Try.checked }
namespace Rows
def none {H : Type} : Left H := { results := [], args := [] }

/-- 'skywavelaw04.ProfileTraces': WHATEVER THE INPUT: true; the input reads as it did. -/
def profileTracesSpec : ChangeSpec := { name := "profileTraces", fn := fun _ => fun
  | [d1, d2] => { results := [.lit (.bool true)], args := [d1, d2] }
  | _ => none }
def profileTracesRow : OpenClaim := { program := "ytdeehodekilaiaa", sum := "b5bd74c810a4783b3828d85910a724ef90178b8a626ac1feaaf12231dce96f1d", func := "skywave/skywavelaw04.ProfileTraces", spec := "profileTraces", unfollowed := true, recurses := true, apart := false }
def ProfileTracesSaid : Prop := profileTracesRow.holds Try.pinned (OpenSpec.ofChange profileTracesSpec)

/-- ITS FALSE NEIGHBOUR: 'it returns false'. Refute it at one input. -/
def profileTracesWrong : ChangeSpec := { name := "profileTraces", fn := fun _ => fun
  | [d1, d2] => { results := [.lit (.bool false)], args := [d1, d2] }
  | _ => none }
def ProfileTracesWrongFalsely : Prop := profileTracesRow.holds Try.pinned (OpenSpec.ofChange profileTracesWrong)

/-- 'skywavelaw04.ProfileContained': WHATEVER THE INPUT: true; the input reads as it did. -/
def profileContainedSpec : ChangeSpec := { name := "profileContained", fn := fun _ => fun
  | [d1, d2] => { results := [.lit (.bool true)], args := [d1, d2] }
  | _ => none }
def profileContainedRow : OpenClaim := { program := "ytdeehodekilaiaa", sum := "b5bd74c810a4783b3828d85910a724ef90178b8a626ac1feaaf12231dce96f1d", func := "skywave/skywavelaw04.ProfileContained", spec := "profileContained", unfollowed := true, recurses := true, apart := false }
def ProfileContainedSaid : Prop := profileContainedRow.holds Try.pinned (OpenSpec.ofChange profileContainedSpec)

/-- ITS FALSE NEIGHBOUR: 'it returns false'. Refute it at one input. -/
def profileContainedWrong : ChangeSpec := { name := "profileContained", fn := fun _ => fun
  | [d1, d2] => { results := [.lit (.bool false)], args := [d1, d2] }
  | _ => none }
def ProfileContainedWrongFalsely : Prop := profileContainedRow.holds Try.pinned (OpenSpec.ofChange profileContainedWrong)

/-- 'skywavelaw04.ProfileFits': WHATEVER THE INPUT: true; the input reads as it did. -/
def profileFitsSpec : ChangeSpec := { name := "profileFits", fn := fun _ => fun
  | [d1, d2] => { results := [.lit (.bool true)], args := [d1, d2] }
  | _ => none }
def profileFitsRow : OpenClaim := { program := "ytdeehodekilaiaa", sum := "b5bd74c810a4783b3828d85910a724ef90178b8a626ac1feaaf12231dce96f1d", func := "skywave/skywavelaw04.ProfileFits", spec := "profileFits", unfollowed := true, recurses := true, apart := false }
def ProfileFitsSaid : Prop := profileFitsRow.holds Try.pinned (OpenSpec.ofChange profileFitsSpec)

/-- ITS FALSE NEIGHBOUR: 'it returns false'. Refute it at one input. -/
def profileFitsWrong : ChangeSpec := { name := "profileFits", fn := fun _ => fun
  | [d1, d2] => { results := [.lit (.bool false)], args := [d1, d2] }
  | _ => none }
def ProfileFitsWrongFalsely : Prop := profileFitsRow.holds Try.pinned (OpenSpec.ofChange profileFitsWrong)

/- THE SECOND FORM. 'bulk': how many values and letters a reading holds, each counted each time it is reached (what is shared counts as often as it is met; a slice's spare places count too). A statement '..UptoSaid' is the law's where the arguments, and the package variables that the reading takes, are together of bulk at most 1048576: NARROWER than '..Said'. Prove '..Said' where nothing that the law and all that it calls make is longer than what came in: it says more and counts as full. Else prove '..UptoSaid'. A law counts once. -/
mutual
def uptoBulk {H : Type} : DataW H → Nat
  | .lit (.string bytes) => bytes.length + 1
  | .lit _ => 1
  | .nil => 1
  | .ptr d => uptoBulk d + 1
  | .slice elems spare => uptoBulkAll elems + uptoBulkAll spare + 1
  | .agg parts => uptoBulkAll parts + 1
  | .iface _ d => uptoBulk d + 1
  | .map entries => uptoBulkEntries entries + 1
  | .held _ => 1
def uptoBulkAll {H : Type} : List (DataW H) → Nat
  | [] => 0
  | d :: r => uptoBulk d + uptoBulkAll r
def uptoBulkEntries {H : Type} : List (Lit × DataW H) → Nat
  | [] => 0
  | x :: r => uptoBulkEntry x + uptoBulkEntries r
def uptoBulkEntry {H : Type} : Lit × DataW H → Nat
  | (.string bytes, d) => bytes.length + uptoBulk d + 1
  | (_, d) => uptoBulk d + 1
 end
def uptoSmall : (H : Type) → List (DataW H) → Bool := fun _ ds => decide (uptoBulkAll ds ≤ 1048576)
def OpenSpec.upto (s : _root_.Go.ChangeSpec) : _root_.Go.OpenSpec := { _root_.Go.OpenSpec.ofChange s with cond := some uptoSmall }

/-- 'skywavelaw04.ProfileTraces', WHERE WHAT IT READS IS OF BULK AT MOST 1048576: true; the input reads as it did. -/
def profileTracesUptoRow : OpenClaim := { program := "ytdeehodekilaiaa", sum := "b5bd74c810a4783b3828d85910a724ef90178b8a626ac1feaaf12231dce96f1d", func := "skywave/skywavelaw04.ProfileTraces", spec := "profileTraces", unfollowed := true, recurses := true, apart := false, narrowed := true }
def ProfileTracesUptoSaid : Prop := profileTracesUptoRow.holds Try.pinned (OpenSpec.upto profileTracesSpec)

/-- 'skywavelaw04.ProfileContained', WHERE WHAT IT READS IS OF BULK AT MOST 1048576: true; the input reads as it did. -/
def profileContainedUptoRow : OpenClaim := { program := "ytdeehodekilaiaa", sum := "b5bd74c810a4783b3828d85910a724ef90178b8a626ac1feaaf12231dce96f1d", func := "skywave/skywavelaw04.ProfileContained", spec := "profileContained", unfollowed := true, recurses := true, apart := false, narrowed := true }
def ProfileContainedUptoSaid : Prop := profileContainedUptoRow.holds Try.pinned (OpenSpec.upto profileContainedSpec)

/-- 'skywavelaw04.ProfileFits', WHERE WHAT IT READS IS OF BULK AT MOST 1048576: true; the input reads as it did. -/
def profileFitsUptoRow : OpenClaim := { program := "ytdeehodekilaiaa", sum := "b5bd74c810a4783b3828d85910a724ef90178b8a626ac1feaaf12231dce96f1d", func := "skywave/skywavelaw04.ProfileFits", spec := "profileFits", unfollowed := true, recurses := true, apart := false, narrowed := true }
def ProfileFitsUptoSaid : Prop := profileFitsUptoRow.holds Try.pinned (OpenSpec.upto profileFitsSpec)

end Rows
end Go.Proofs.Ytdeehodekilaiaa
