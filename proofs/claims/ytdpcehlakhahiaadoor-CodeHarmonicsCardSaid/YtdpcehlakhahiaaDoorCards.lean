/-
  DERIVED. GIVEN WITH THE SEED: THE CARDS: each row of YtdpcehlakhahiaaDoorRows.lean that lists a variable, with what it lists TIED to the program's text (the seventh form; the later family's looks); each row that meets fmt, with fmt's text TOLD by the authors' own Lean function (tested against real Go, not proved from fmt's source: count such statements apart). THE CARD IS WHAT COUNTS. Prove the row's statement (the work); the ties are given (YtdpcehlakhahiaaDoorTie.lean); close each card by the builder's one call (the guide's Derived/Test/ToyasCard.lean, 'card_holds'). Laid BY PROGRAM, IN A SANDBOX (cutbox-door.mjs). By AI agents, Wed Nov 11 2026. No macro, syntax, notation, axiom, sorry.
-/
import Derived.Test.YtdpcehlakhahiaaDoorRows
import GoSem.ClaimSeven
namespace Go.Proofs.YtdpcehlakhahiaaDoor
namespace Rows

/-- THE TIED CARD OF 'skywavelaw01.CodePairs'. -/
def codePairsCard : Claim7 := { stood := { row := codePairsRow, standIns := [], harness := (true, "5257b1cf836de3028f5bb5f03635ae3854a2f55938f96ec21430d4c047d3711f"), looks := false }, kinds := [], alts := [], laidByText := true, laidKinds := [.data], laidTests := true, laidLooks := .later }
def CodePairsCardSaid : Prop := Claim7.holds Tryd.pinned (.plain (OpenSpec.ofChange codePairsSpec)) codePairsCard

/-- THE TIED CARD OF 'skywavelaw01.CodeComplementary'. -/
def codeComplementaryCard : Claim7 := { stood := { row := codeComplementaryRow, standIns := [], harness := (true, "5257b1cf836de3028f5bb5f03635ae3854a2f55938f96ec21430d4c047d3711f"), looks := false }, kinds := [], alts := [], laidByText := true, laidKinds := [.data], laidTests := true, laidLooks := .later }
def CodeComplementaryCardSaid : Prop := Claim7.holds Tryd.pinned (.plain (OpenSpec.ofChange codeComplementarySpec)) codeComplementaryCard

/-- THE TIED CARD OF 'skywavelaw01.CodeHarmonics'. -/
def codeHarmonicsCard : Claim7 := { stood := { row := codeHarmonicsRow, standIns := [], harness := (true, "5257b1cf836de3028f5bb5f03635ae3854a2f55938f96ec21430d4c047d3711f"), looks := false }, kinds := [], alts := [], laidByText := true, laidKinds := [.data], laidTests := true, laidLooks := .later }
def CodeHarmonicsCardSaid : Prop := Claim7.holds Tryd.pinned (.plain (OpenSpec.ofChange codeHarmonicsSpec)) codeHarmonicsCard

/-- THE TIED CARD OF 'skywavelaw01.CodeCleaned'. -/
def codeCleanedCard : Claim7 := { stood := { row := codeCleanedRow, standIns := [], harness := (true, "5257b1cf836de3028f5bb5f03635ae3854a2f55938f96ec21430d4c047d3711f"), looks := false }, kinds := [], alts := [], laidByText := true, laidKinds := [.data], laidTests := true, laidLooks := .later }
def CodeCleanedCardSaid : Prop := Claim7.holds Tryd.pinned (.plain (OpenSpec.ofChange codeCleanedSpec)) codeCleanedCard

/-- THE TIED CARD OF 'skywavelaw01.CodeRemoved'. -/
def codeRemovedCard : Claim7 := { stood := { row := codeRemovedRow, standIns := [], harness := (true, "5257b1cf836de3028f5bb5f03635ae3854a2f55938f96ec21430d4c047d3711f"), looks := false }, kinds := [], alts := [], laidByText := true, laidKinds := [.data], laidTests := true, laidLooks := .later }
def CodeRemovedCardSaid : Prop := Claim7.holds Tryd.pinned (.plain (OpenSpec.ofChange codeRemovedSpec)) codeRemovedCard

/-- THE TIED CARD OF 'skywavetop.TopCodeLines'. -/
def topCodeLinesCard : Claim7 := { stood := { row := topCodeLinesRow, standIns := [], harness := (true, "5257b1cf836de3028f5bb5f03635ae3854a2f55938f96ec21430d4c047d3711f"), looks := false }, kinds := [], alts := [], laidByText := true, laidKinds := [.data], laidTests := true, laidLooks := .later }
def TopCodeLinesCardSaid : Prop := Claim7.holds Tryd.pinned (.plain (OpenSpec.ofChange topCodeLinesSpec)) topCodeLinesCard

/-- THE SECOND FORM's CARD OF 'skywavelaw01.CodePairs'. -/
def codePairsUptoCard : Claim7 := { stood := { row := codePairsUptoRow, standIns := [], harness := (true, "5257b1cf836de3028f5bb5f03635ae3854a2f55938f96ec21430d4c047d3711f"), looks := false }, kinds := [], alts := [], laidByText := true, laidKinds := [.data], laidTests := true, laidLooks := .later }
def CodePairsUptoCardSaid : Prop := Claim7.holds Tryd.pinned (.plain (OpenSpec.upto codePairsSpec)) codePairsUptoCard

/-- THE SECOND FORM's CARD OF 'skywavelaw01.CodeComplementary'. -/
def codeComplementaryUptoCard : Claim7 := { stood := { row := codeComplementaryUptoRow, standIns := [], harness := (true, "5257b1cf836de3028f5bb5f03635ae3854a2f55938f96ec21430d4c047d3711f"), looks := false }, kinds := [], alts := [], laidByText := true, laidKinds := [.data], laidTests := true, laidLooks := .later }
def CodeComplementaryUptoCardSaid : Prop := Claim7.holds Tryd.pinned (.plain (OpenSpec.upto codeComplementarySpec)) codeComplementaryUptoCard

/-- THE SECOND FORM's CARD OF 'skywavelaw01.CodeHarmonics'. -/
def codeHarmonicsUptoCard : Claim7 := { stood := { row := codeHarmonicsUptoRow, standIns := [], harness := (true, "5257b1cf836de3028f5bb5f03635ae3854a2f55938f96ec21430d4c047d3711f"), looks := false }, kinds := [], alts := [], laidByText := true, laidKinds := [.data], laidTests := true, laidLooks := .later }
def CodeHarmonicsUptoCardSaid : Prop := Claim7.holds Tryd.pinned (.plain (OpenSpec.upto codeHarmonicsSpec)) codeHarmonicsUptoCard

/-- THE SECOND FORM's CARD OF 'skywavelaw01.CodeCleaned'. -/
def codeCleanedUptoCard : Claim7 := { stood := { row := codeCleanedUptoRow, standIns := [], harness := (true, "5257b1cf836de3028f5bb5f03635ae3854a2f55938f96ec21430d4c047d3711f"), looks := false }, kinds := [], alts := [], laidByText := true, laidKinds := [.data], laidTests := true, laidLooks := .later }
def CodeCleanedUptoCardSaid : Prop := Claim7.holds Tryd.pinned (.plain (OpenSpec.upto codeCleanedSpec)) codeCleanedUptoCard

/-- THE SECOND FORM's CARD OF 'skywavelaw01.CodeRemoved'. -/
def codeRemovedUptoCard : Claim7 := { stood := { row := codeRemovedUptoRow, standIns := [], harness := (true, "5257b1cf836de3028f5bb5f03635ae3854a2f55938f96ec21430d4c047d3711f"), looks := false }, kinds := [], alts := [], laidByText := true, laidKinds := [.data], laidTests := true, laidLooks := .later }
def CodeRemovedUptoCardSaid : Prop := Claim7.holds Tryd.pinned (.plain (OpenSpec.upto codeRemovedSpec)) codeRemovedUptoCard

/-- THE SECOND FORM's CARD OF 'skywavetop.TopCodeLines'. -/
def topCodeLinesUptoCard : Claim7 := { stood := { row := topCodeLinesUptoRow, standIns := [], harness := (true, "5257b1cf836de3028f5bb5f03635ae3854a2f55938f96ec21430d4c047d3711f"), looks := false }, kinds := [], alts := [], laidByText := true, laidKinds := [.data], laidTests := true, laidLooks := .later }
def TopCodeLinesUptoCardSaid : Prop := Claim7.holds Tryd.pinned (.plain (OpenSpec.upto topCodeLinesSpec)) topCodeLinesUptoCard
end Rows
end Go.Proofs.YtdpcehlakhahiaaDoor
