/-
  DERIVED. GIVEN WITH THE SEED: THE CARDS: each row of YthkmeaibppkhmaaDoorRows.lean that lists a variable, with what it lists TIED to the program's text (the seventh form; the later family's looks); each row that meets fmt, with fmt's text TOLD by the authors' own Lean function (tested against real Go, not proved from fmt's source: count such statements apart). THE CARD IS WHAT COUNTS. Prove the row's statement (the work); the ties are given (YthkmeaibppkhmaaDoorTie.lean); close each card by the builder's one call (the guide's Derived/Test/ToyasCard.lean, 'card_holds'). Laid BY PROGRAM, IN A SANDBOX (cutbox-door.mjs). By AI agents, Wed Nov 11 2026. No macro, syntax, notation, axiom, sorry.
-/
import Derived.Test.YthkmeaibppkhmaaDoorRows
import GoSem.ClaimSeven
namespace Go.Proofs.YthkmeaibppkhmaaDoor
namespace Rows

/-- THE TIED CARD OF 'skywavelaw01.CodeCorrelations'. -/
def codeCorrelationsCard : Claim7 := { stood := { row := codeCorrelationsRow, standIns := [], harness := (true, "264d3edcbbb55c0f76cf19e1b0564caa51b90134c99fb6afb1a22cbc698c5157"), looks := false }, kinds := [], alts := [], laidByText := true, laidKinds := [.data], laidTests := true, laidLooks := .later }
def CodeCorrelationsCardSaid : Prop := Claim7.holds Tryd.pinned (.plain (OpenSpec.ofChange codeCorrelationsSpec)) codeCorrelationsCard

/-- THE TIED CARD OF 'skywavelaw01.CodeSearches'. -/
def codeSearchesCard : Claim7 := { stood := { row := codeSearchesRow, standIns := [], harness := (true, "264d3edcbbb55c0f76cf19e1b0564caa51b90134c99fb6afb1a22cbc698c5157"), looks := false }, kinds := [], alts := [], laidByText := true, laidKinds := [.data], laidTests := true, laidLooks := .later }
def CodeSearchesCardSaid : Prop := Claim7.holds Tryd.pinned (.plain (OpenSpec.ofChange codeSearchesSpec)) codeSearchesCard

/-- THE TIED CARD OF 'skywavelaw01.CodePairs'. -/
def codePairsCard : Claim7 := { stood := { row := codePairsRow, standIns := [], harness := (true, "264d3edcbbb55c0f76cf19e1b0564caa51b90134c99fb6afb1a22cbc698c5157"), looks := false }, kinds := [], alts := [], laidByText := true, laidKinds := [.data], laidTests := true, laidLooks := .later }
def CodePairsCardSaid : Prop := Claim7.holds Tryd.pinned (.plain (OpenSpec.ofChange codePairsSpec)) codePairsCard

/-- THE TIED CARD OF 'skywavelaw01.CodeComplementary'. -/
def codeComplementaryCard : Claim7 := { stood := { row := codeComplementaryRow, standIns := [], harness := (true, "264d3edcbbb55c0f76cf19e1b0564caa51b90134c99fb6afb1a22cbc698c5157"), looks := false }, kinds := [], alts := [], laidByText := true, laidKinds := [.data], laidTests := true, laidLooks := .later }
def CodeComplementaryCardSaid : Prop := Claim7.holds Tryd.pinned (.plain (OpenSpec.ofChange codeComplementarySpec)) codeComplementaryCard

/-- THE TIED CARD OF 'skywavelaw01.CodeChirps'. -/
def codeChirpsCard : Claim7 := { stood := { row := codeChirpsRow, standIns := [], harness := (true, "264d3edcbbb55c0f76cf19e1b0564caa51b90134c99fb6afb1a22cbc698c5157"), looks := false }, kinds := [], alts := [], laidByText := true, laidKinds := [.data], laidTests := true, laidLooks := .later }
def CodeChirpsCardSaid : Prop := Claim7.holds Tryd.pinned (.plain (OpenSpec.ofChange codeChirpsSpec)) codeChirpsCard

/-- THE TIED CARD OF 'skywavelaw01.CodeStairs'. -/
def codeStairsCard : Claim7 := { stood := { row := codeStairsRow, standIns := [], harness := (true, "264d3edcbbb55c0f76cf19e1b0564caa51b90134c99fb6afb1a22cbc698c5157"), looks := false }, kinds := [], alts := [], laidByText := true, laidKinds := [.data], laidTests := true, laidLooks := .later }
def CodeStairsCardSaid : Prop := Claim7.holds Tryd.pinned (.plain (OpenSpec.ofChange codeStairsSpec)) codeStairsCard

/-- THE TIED CARD OF 'skywavelaw01.CodeFrames'. -/
def codeFramesCard : Claim7 := { stood := { row := codeFramesRow, standIns := [], harness := (true, "264d3edcbbb55c0f76cf19e1b0564caa51b90134c99fb6afb1a22cbc698c5157"), looks := false }, kinds := [], alts := [], laidByText := true, laidKinds := [.data], laidTests := true, laidLooks := .later }
def CodeFramesCardSaid : Prop := Claim7.holds Tryd.pinned (.plain (OpenSpec.ofChange codeFramesSpec)) codeFramesCard

/-- THE TIED CARD OF 'skywavelaw01.CodeLines'. -/
def codeLinesCard : Claim7 := { stood := { row := codeLinesRow, standIns := [], harness := (true, "264d3edcbbb55c0f76cf19e1b0564caa51b90134c99fb6afb1a22cbc698c5157"), looks := false }, kinds := [], alts := [], laidByText := true, laidKinds := [.data], laidTests := true, laidLooks := .later }
def CodeLinesCardSaid : Prop := Claim7.holds Tryd.pinned (.plain (OpenSpec.ofChange codeLinesSpec)) codeLinesCard

/-- THE TIED CARD OF 'skywavelaw01.CodeCombined'. -/
def codeCombinedCard : Claim7 := { stood := { row := codeCombinedRow, standIns := [], harness := (true, "264d3edcbbb55c0f76cf19e1b0564caa51b90134c99fb6afb1a22cbc698c5157"), looks := false }, kinds := [], alts := [], laidByText := true, laidKinds := [.data], laidTests := true, laidLooks := .later }
def CodeCombinedCardSaid : Prop := Claim7.holds Tryd.pinned (.plain (OpenSpec.ofChange codeCombinedSpec)) codeCombinedCard

/-- THE TIED CARD OF 'skywavelaw01.CodeLevels'. -/
def codeLevelsCard : Claim7 := { stood := { row := codeLevelsRow, standIns := [], harness := (true, "264d3edcbbb55c0f76cf19e1b0564caa51b90134c99fb6afb1a22cbc698c5157"), looks := false }, kinds := [], alts := [], laidByText := true, laidKinds := [.data], laidTests := true, laidLooks := .later }
def CodeLevelsCardSaid : Prop := Claim7.holds Tryd.pinned (.plain (OpenSpec.ofChange codeLevelsSpec)) codeLevelsCard

/-- THE TIED CARD OF 'skywavelaw01.CodeWhateverLost'. -/
def codeWhateverLostCard : Claim7 := { stood := { row := codeWhateverLostRow, standIns := [], harness := (true, "264d3edcbbb55c0f76cf19e1b0564caa51b90134c99fb6afb1a22cbc698c5157"), looks := false }, kinds := [], alts := [], laidByText := true, laidKinds := [.data], laidTests := true, laidLooks := .later }
def CodeWhateverLostCardSaid : Prop := Claim7.holds Tryd.pinned (.plain (OpenSpec.ofChange codeWhateverLostSpec)) codeWhateverLostCard

/-- THE TIED CARD OF 'skywavelaw01.CodeHarmonics'. -/
def codeHarmonicsCard : Claim7 := { stood := { row := codeHarmonicsRow, standIns := [], harness := (true, "264d3edcbbb55c0f76cf19e1b0564caa51b90134c99fb6afb1a22cbc698c5157"), looks := false }, kinds := [], alts := [], laidByText := true, laidKinds := [.data], laidTests := true, laidLooks := .later }
def CodeHarmonicsCardSaid : Prop := Claim7.holds Tryd.pinned (.plain (OpenSpec.ofChange codeHarmonicsSpec)) codeHarmonicsCard

/-- THE SECOND FORM's CARD OF 'skywavelaw01.CodeCorrelations'. -/
def codeCorrelationsUptoCard : Claim7 := { stood := { row := codeCorrelationsUptoRow, standIns := [], harness := (true, "264d3edcbbb55c0f76cf19e1b0564caa51b90134c99fb6afb1a22cbc698c5157"), looks := false }, kinds := [], alts := [], laidByText := true, laidKinds := [.data], laidTests := true, laidLooks := .later }
def CodeCorrelationsUptoCardSaid : Prop := Claim7.holds Tryd.pinned (.plain (OpenSpec.upto codeCorrelationsSpec)) codeCorrelationsUptoCard

/-- THE SECOND FORM's CARD OF 'skywavelaw01.CodeSearches'. -/
def codeSearchesUptoCard : Claim7 := { stood := { row := codeSearchesUptoRow, standIns := [], harness := (true, "264d3edcbbb55c0f76cf19e1b0564caa51b90134c99fb6afb1a22cbc698c5157"), looks := false }, kinds := [], alts := [], laidByText := true, laidKinds := [.data], laidTests := true, laidLooks := .later }
def CodeSearchesUptoCardSaid : Prop := Claim7.holds Tryd.pinned (.plain (OpenSpec.upto codeSearchesSpec)) codeSearchesUptoCard

/-- THE SECOND FORM's CARD OF 'skywavelaw01.CodePairs'. -/
def codePairsUptoCard : Claim7 := { stood := { row := codePairsUptoRow, standIns := [], harness := (true, "264d3edcbbb55c0f76cf19e1b0564caa51b90134c99fb6afb1a22cbc698c5157"), looks := false }, kinds := [], alts := [], laidByText := true, laidKinds := [.data], laidTests := true, laidLooks := .later }
def CodePairsUptoCardSaid : Prop := Claim7.holds Tryd.pinned (.plain (OpenSpec.upto codePairsSpec)) codePairsUptoCard

/-- THE SECOND FORM's CARD OF 'skywavelaw01.CodeComplementary'. -/
def codeComplementaryUptoCard : Claim7 := { stood := { row := codeComplementaryUptoRow, standIns := [], harness := (true, "264d3edcbbb55c0f76cf19e1b0564caa51b90134c99fb6afb1a22cbc698c5157"), looks := false }, kinds := [], alts := [], laidByText := true, laidKinds := [.data], laidTests := true, laidLooks := .later }
def CodeComplementaryUptoCardSaid : Prop := Claim7.holds Tryd.pinned (.plain (OpenSpec.upto codeComplementarySpec)) codeComplementaryUptoCard

/-- THE SECOND FORM's CARD OF 'skywavelaw01.CodeChirps'. -/
def codeChirpsUptoCard : Claim7 := { stood := { row := codeChirpsUptoRow, standIns := [], harness := (true, "264d3edcbbb55c0f76cf19e1b0564caa51b90134c99fb6afb1a22cbc698c5157"), looks := false }, kinds := [], alts := [], laidByText := true, laidKinds := [.data], laidTests := true, laidLooks := .later }
def CodeChirpsUptoCardSaid : Prop := Claim7.holds Tryd.pinned (.plain (OpenSpec.upto codeChirpsSpec)) codeChirpsUptoCard

/-- THE SECOND FORM's CARD OF 'skywavelaw01.CodeStairs'. -/
def codeStairsUptoCard : Claim7 := { stood := { row := codeStairsUptoRow, standIns := [], harness := (true, "264d3edcbbb55c0f76cf19e1b0564caa51b90134c99fb6afb1a22cbc698c5157"), looks := false }, kinds := [], alts := [], laidByText := true, laidKinds := [.data], laidTests := true, laidLooks := .later }
def CodeStairsUptoCardSaid : Prop := Claim7.holds Tryd.pinned (.plain (OpenSpec.upto codeStairsSpec)) codeStairsUptoCard

/-- THE SECOND FORM's CARD OF 'skywavelaw01.CodeFrames'. -/
def codeFramesUptoCard : Claim7 := { stood := { row := codeFramesUptoRow, standIns := [], harness := (true, "264d3edcbbb55c0f76cf19e1b0564caa51b90134c99fb6afb1a22cbc698c5157"), looks := false }, kinds := [], alts := [], laidByText := true, laidKinds := [.data], laidTests := true, laidLooks := .later }
def CodeFramesUptoCardSaid : Prop := Claim7.holds Tryd.pinned (.plain (OpenSpec.upto codeFramesSpec)) codeFramesUptoCard

/-- THE SECOND FORM's CARD OF 'skywavelaw01.CodeLines'. -/
def codeLinesUptoCard : Claim7 := { stood := { row := codeLinesUptoRow, standIns := [], harness := (true, "264d3edcbbb55c0f76cf19e1b0564caa51b90134c99fb6afb1a22cbc698c5157"), looks := false }, kinds := [], alts := [], laidByText := true, laidKinds := [.data], laidTests := true, laidLooks := .later }
def CodeLinesUptoCardSaid : Prop := Claim7.holds Tryd.pinned (.plain (OpenSpec.upto codeLinesSpec)) codeLinesUptoCard

/-- THE SECOND FORM's CARD OF 'skywavelaw01.CodeCombined'. -/
def codeCombinedUptoCard : Claim7 := { stood := { row := codeCombinedUptoRow, standIns := [], harness := (true, "264d3edcbbb55c0f76cf19e1b0564caa51b90134c99fb6afb1a22cbc698c5157"), looks := false }, kinds := [], alts := [], laidByText := true, laidKinds := [.data], laidTests := true, laidLooks := .later }
def CodeCombinedUptoCardSaid : Prop := Claim7.holds Tryd.pinned (.plain (OpenSpec.upto codeCombinedSpec)) codeCombinedUptoCard

/-- THE SECOND FORM's CARD OF 'skywavelaw01.CodeLevels'. -/
def codeLevelsUptoCard : Claim7 := { stood := { row := codeLevelsUptoRow, standIns := [], harness := (true, "264d3edcbbb55c0f76cf19e1b0564caa51b90134c99fb6afb1a22cbc698c5157"), looks := false }, kinds := [], alts := [], laidByText := true, laidKinds := [.data], laidTests := true, laidLooks := .later }
def CodeLevelsUptoCardSaid : Prop := Claim7.holds Tryd.pinned (.plain (OpenSpec.upto codeLevelsSpec)) codeLevelsUptoCard

/-- THE SECOND FORM's CARD OF 'skywavelaw01.CodeWhateverLost'. -/
def codeWhateverLostUptoCard : Claim7 := { stood := { row := codeWhateverLostUptoRow, standIns := [], harness := (true, "264d3edcbbb55c0f76cf19e1b0564caa51b90134c99fb6afb1a22cbc698c5157"), looks := false }, kinds := [], alts := [], laidByText := true, laidKinds := [.data], laidTests := true, laidLooks := .later }
def CodeWhateverLostUptoCardSaid : Prop := Claim7.holds Tryd.pinned (.plain (OpenSpec.upto codeWhateverLostSpec)) codeWhateverLostUptoCard

/-- THE SECOND FORM's CARD OF 'skywavelaw01.CodeHarmonics'. -/
def codeHarmonicsUptoCard : Claim7 := { stood := { row := codeHarmonicsUptoRow, standIns := [], harness := (true, "264d3edcbbb55c0f76cf19e1b0564caa51b90134c99fb6afb1a22cbc698c5157"), looks := false }, kinds := [], alts := [], laidByText := true, laidKinds := [.data], laidTests := true, laidLooks := .later }
def CodeHarmonicsUptoCardSaid : Prop := Claim7.holds Tryd.pinned (.plain (OpenSpec.upto codeHarmonicsSpec)) codeHarmonicsUptoCard
end Rows
end Go.Proofs.YthkmeaibppkhmaaDoor
