/-
  DERIVED. GIVEN WITH THE SEED: THE CARDS: each row of YtnigmdkhecblnaaDoorRows.lean that lists a variable, with what it lists TIED to the program's text (the seventh form; the later family's looks); each row that meets fmt, with fmt's text TOLD by the authors' own Lean function (tested against real Go, not proved from fmt's source: count such statements apart). THE CARD IS WHAT COUNTS. Prove the row's statement (the work); the ties are given (YtnigmdkhecblnaaDoorTie.lean); close each card by the builder's one call (the guide's Derived/Test/ToyasCard.lean, 'card_holds'). Laid BY PROGRAM, IN A SANDBOX (cutbox-door.mjs). By AI agents, Wed Nov 11 2026. No macro, syntax, notation, axiom, sorry.
-/
import Derived.Test.YtnigmdkhecblnaaDoorRows
import GoSem.ClaimSeven
namespace Go.Proofs.YtnigmdkhecblnaaDoor
namespace Rows

/-- THE TIED CARD OF 'skywavelaw01.CodeCleaned'. -/
def codeCleanedCard : Claim7 := { stood := { row := codeCleanedRow, standIns := [], harness := (true, "128d4d0c99f87e4c5a8e2fa8b5aaaf776644a5008acd808b1994a39ceb7687c5"), looks := false }, kinds := [], alts := [], laidByText := true, laidKinds := [.data], laidTests := true, laidLooks := .later }
def CodeCleanedCardSaid : Prop := Claim7.holds Tryd.pinned (.plain (OpenSpec.ofChange codeCleanedSpec)) codeCleanedCard

/-- THE TIED CARD OF 'skywavelaw01.CodeRemoved'. -/
def codeRemovedCard : Claim7 := { stood := { row := codeRemovedRow, standIns := [], harness := (true, "128d4d0c99f87e4c5a8e2fa8b5aaaf776644a5008acd808b1994a39ceb7687c5"), looks := false }, kinds := [], alts := [], laidByText := true, laidKinds := [.data], laidTests := true, laidLooks := .later }
def CodeRemovedCardSaid : Prop := Claim7.holds Tryd.pinned (.plain (OpenSpec.ofChange codeRemovedSpec)) codeRemovedCard

/-- THE TIED CARD OF 'skywavetop.TopCodeLines'. -/
def topCodeLinesCard : Claim7 := { stood := { row := topCodeLinesRow, standIns := [], harness := (true, "128d4d0c99f87e4c5a8e2fa8b5aaaf776644a5008acd808b1994a39ceb7687c5"), looks := false }, kinds := [], alts := [], laidByText := true, laidKinds := [.data], laidTests := true, laidLooks := .later }
def TopCodeLinesCardSaid : Prop := Claim7.holds Tryd.pinned (.plain (OpenSpec.ofChange topCodeLinesSpec)) topCodeLinesCard

/-- THE SECOND FORM's CARD OF 'skywavelaw01.CodeCleaned'. -/
def codeCleanedUptoCard : Claim7 := { stood := { row := codeCleanedUptoRow, standIns := [], harness := (true, "128d4d0c99f87e4c5a8e2fa8b5aaaf776644a5008acd808b1994a39ceb7687c5"), looks := false }, kinds := [], alts := [], laidByText := true, laidKinds := [.data], laidTests := true, laidLooks := .later }
def CodeCleanedUptoCardSaid : Prop := Claim7.holds Tryd.pinned (.plain (OpenSpec.upto codeCleanedSpec)) codeCleanedUptoCard

/-- THE SECOND FORM's CARD OF 'skywavelaw01.CodeRemoved'. -/
def codeRemovedUptoCard : Claim7 := { stood := { row := codeRemovedUptoRow, standIns := [], harness := (true, "128d4d0c99f87e4c5a8e2fa8b5aaaf776644a5008acd808b1994a39ceb7687c5"), looks := false }, kinds := [], alts := [], laidByText := true, laidKinds := [.data], laidTests := true, laidLooks := .later }
def CodeRemovedUptoCardSaid : Prop := Claim7.holds Tryd.pinned (.plain (OpenSpec.upto codeRemovedSpec)) codeRemovedUptoCard

/-- THE SECOND FORM's CARD OF 'skywavetop.TopCodeLines'. -/
def topCodeLinesUptoCard : Claim7 := { stood := { row := topCodeLinesUptoRow, standIns := [], harness := (true, "128d4d0c99f87e4c5a8e2fa8b5aaaf776644a5008acd808b1994a39ceb7687c5"), looks := false }, kinds := [], alts := [], laidByText := true, laidKinds := [.data], laidTests := true, laidLooks := .later }
def TopCodeLinesUptoCardSaid : Prop := Claim7.holds Tryd.pinned (.plain (OpenSpec.upto topCodeLinesSpec)) topCodeLinesUptoCard
end Rows
end Go.Proofs.YtnigmdkhecblnaaDoor
