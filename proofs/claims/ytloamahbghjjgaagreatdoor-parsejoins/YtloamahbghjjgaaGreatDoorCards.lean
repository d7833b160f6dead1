/-
  DERIVED. GIVEN WITH THE SEED: THE CARDS: each row of YtloamahbghjjgaaGreatDoorRows.lean that lists a variable, with what it lists TIED to the program's text (the seventh form; the later family's looks); each row that meets fmt, with fmt's text TOLD by the authors' own Lean function (tested against real Go, not proved from fmt's source: count such statements apart). THE CARD IS WHAT COUNTS. Prove the row's statement (the work); the ties are given (YtloamahbghjjgaaGreatDoorTie.lean); close each card by the builder's one call (the guide's Derived/Test/ToyasCard.lean, 'card_holds'). Laid BY PROGRAM, IN A SANDBOX (cutbox-door.mjs). By AI agents, Wed Nov 11 2026. No macro, syntax, notation, axiom, sorry.
-/
import Derived.Test.YtloamahbghjjgaaGreatDoorRows
import GoSem.ClaimSeven
namespace Go.Proofs.YtloamahbghjjgaaGreatDoor
namespace Rows

/-- THE TIED CARD OF 'latticelaw06.ParseReads'. -/
def parseReadsCard : Claim7 := { stood := { row := parseReadsRow, standIns := [], harness := (true, "35447d9b1a6f73357ae427d05f5a8f265b5df5a34397a9c50a7714b026421bc7"), looks := true }, kinds := [], alts := [], laidByText := true, laidKinds := [.data, .data, .data, .data, .sentinel, .sentinel, .data, .data, .pinned], laidTests := true, laidLooks := .later }
def ParseReadsCardSaid : Prop := Claim7.holds Tryz.pinned (.plain (OpenSpec.ofChange parseReadsSpec)) parseReadsCard

/-- THE TIED CARD OF 'latticelaw06.ParseGood'. -/
def parseGoodCard : Claim7 := { stood := { row := parseGoodRow, standIns := [], harness := (true, "35447d9b1a6f73357ae427d05f5a8f265b5df5a34397a9c50a7714b026421bc7"), looks := true }, kinds := [], alts := [], laidByText := true, laidKinds := [.data, .data, .data, .data, .sentinel, .sentinel, .data, .data, .pinned], laidTests := true, laidLooks := .later }
def ParseGoodCardSaid : Prop := Claim7.holds Tryz.pinned (.plain (OpenSpec.ofChange parseGoodSpec)) parseGoodCard

/-- THE TIED CARD OF 'latticelaw06.ParsePlus'. -/
def parsePlusCard : Claim7 := { stood := { row := parsePlusRow, standIns := [], harness := (true, "35447d9b1a6f73357ae427d05f5a8f265b5df5a34397a9c50a7714b026421bc7"), looks := true }, kinds := [], alts := [], laidByText := true, laidKinds := [.data, .data, .data, .data, .sentinel, .sentinel, .data, .data, .pinned], laidTests := true, laidLooks := .later }
def ParsePlusCardSaid : Prop := Claim7.holds Tryz.pinned (.plain (OpenSpec.ofChange parsePlusSpec)) parsePlusCard

/-- THE TIED CARD OF 'latticelaw06.ParseJoins'. -/
def parseJoinsCard : Claim7 := { stood := { row := parseJoinsRow, standIns := [], harness := (true, "35447d9b1a6f73357ae427d05f5a8f265b5df5a34397a9c50a7714b026421bc7"), looks := true }, kinds := [], alts := [], laidByText := true, laidKinds := [.data, .data, .data, .data, .sentinel, .sentinel, .data, .data, .pinned], laidTests := true, laidLooks := .later }
def ParseJoinsCardSaid : Prop := Claim7.holds Tryz.pinned (.plain (OpenSpec.ofChange parseJoinsSpec)) parseJoinsCard

/-- THE TIED CARD OF 'latticelaw06.ParseDeep'. -/
def parseDeepCard : Claim7 := { stood := { row := parseDeepRow, standIns := [], harness := (true, "35447d9b1a6f73357ae427d05f5a8f265b5df5a34397a9c50a7714b026421bc7"), looks := true }, kinds := [], alts := [], laidByText := true, laidKinds := [.data, .data, .data, .data, .sentinel, .sentinel, .data, .data, .pinned], laidTests := true, laidLooks := .later }
def ParseDeepCardSaid : Prop := Claim7.holds Tryz.pinned (.plain (OpenSpec.ofChange parseDeepSpec)) parseDeepCard

/-- THE TIED CARD OF 'latticelaw07.ShowTrees'. -/
def showTreesCard : Claim7 := { stood := { row := showTreesRow, standIns := [], harness := (true, "35447d9b1a6f73357ae427d05f5a8f265b5df5a34397a9c50a7714b026421bc7"), looks := true }, kinds := [], alts := [], laidByText := true, laidKinds := [.data, .data, .data, .data, .sentinel, .sentinel, .data, .data, .pinned], laidTests := true, laidLooks := .later }
def ShowTreesCardSaid : Prop := Claim7.holds Tryz.pinned (.plain (OpenSpec.ofChange showTreesSpec)) showTreesCard

/-- THE TIED CARD OF 'latticelaw07.ShowTidy'. -/
def showTidyCard : Claim7 := { stood := { row := showTidyRow, standIns := [], harness := (true, "35447d9b1a6f73357ae427d05f5a8f265b5df5a34397a9c50a7714b026421bc7"), looks := true }, kinds := [], alts := [], laidByText := true, laidKinds := [.data, .data, .data, .data, .sentinel, .sentinel, .data, .data, .pinned], laidTests := true, laidLooks := .later }
def ShowTidyCardSaid : Prop := Claim7.holds Tryz.pinned (.plain (OpenSpec.ofChange showTidySpec)) showTidyCard

/-- THE TIED CARD OF 'latticelaw07.ShowBack'. -/
def showBackCard : Claim7 := { stood := { row := showBackRow, standIns := [], harness := (true, "35447d9b1a6f73357ae427d05f5a8f265b5df5a34397a9c50a7714b026421bc7"), looks := true }, kinds := [], alts := [], laidByText := true, laidKinds := [.data, .data, .data, .data, .sentinel, .sentinel, .data, .data, .pinned], laidTests := true, laidLooks := .later }
def ShowBackCardSaid : Prop := Claim7.holds Tryz.pinned (.plain (OpenSpec.ofChange showBackSpec)) showBackCard

/-- THE TIED CARD OF 'latticelaw07.ShowStays'. -/
def showStaysCard : Claim7 := { stood := { row := showStaysRow, standIns := [], harness := (true, "35447d9b1a6f73357ae427d05f5a8f265b5df5a34397a9c50a7714b026421bc7"), looks := true }, kinds := [], alts := [], laidByText := true, laidKinds := [.data, .data, .data, .data, .sentinel, .sentinel, .data, .data, .pinned], laidTests := true, laidLooks := .later }
def ShowStaysCardSaid : Prop := Claim7.holds Tryz.pinned (.plain (OpenSpec.ofChange showStaysSpec)) showStaysCard

/-- THE SECOND FORM's CARD OF 'latticelaw06.ParseReads'. -/
def parseReadsUptoCard : Claim7 := { stood := { row := parseReadsUptoRow, standIns := [], harness := (true, "35447d9b1a6f73357ae427d05f5a8f265b5df5a34397a9c50a7714b026421bc7"), looks := true }, kinds := [], alts := [], laidByText := true, laidKinds := [.data, .data, .data, .data, .sentinel, .sentinel, .data, .data, .pinned], laidTests := true, laidLooks := .later }
def ParseReadsUptoCardSaid : Prop := Claim7.holds Tryz.pinned (.plain (OpenSpec.upto parseReadsSpec)) parseReadsUptoCard

/-- THE SECOND FORM's CARD OF 'latticelaw06.ParseGood'. -/
def parseGoodUptoCard : Claim7 := { stood := { row := parseGoodUptoRow, standIns := [], harness := (true, "35447d9b1a6f73357ae427d05f5a8f265b5df5a34397a9c50a7714b026421bc7"), looks := true }, kinds := [], alts := [], laidByText := true, laidKinds := [.data, .data, .data, .data, .sentinel, .sentinel, .data, .data, .pinned], laidTests := true, laidLooks := .later }
def ParseGoodUptoCardSaid : Prop := Claim7.holds Tryz.pinned (.plain (OpenSpec.upto parseGoodSpec)) parseGoodUptoCard

/-- THE SECOND FORM's CARD OF 'latticelaw06.ParsePlus'. -/
def parsePlusUptoCard : Claim7 := { stood := { row := parsePlusUptoRow, standIns := [], harness := (true, "35447d9b1a6f73357ae427d05f5a8f265b5df5a34397a9c50a7714b026421bc7"), looks := true }, kinds := [], alts := [], laidByText := true, laidKinds := [.data, .data, .data, .data, .sentinel, .sentinel, .data, .data, .pinned], laidTests := true, laidLooks := .later }
def ParsePlusUptoCardSaid : Prop := Claim7.holds Tryz.pinned (.plain (OpenSpec.upto parsePlusSpec)) parsePlusUptoCard

/-- THE SECOND FORM's CARD OF 'latticelaw06.ParseJoins'. -/
def parseJoinsUptoCard : Claim7 := { stood := { row := parseJoinsUptoRow, standIns := [], harness := (true, "35447d9b1a6f73357ae427d05f5a8f265b5df5a34397a9c50a7714b026421bc7"), looks := true }, kinds := [], alts := [], laidByText := true, laidKinds := [.data, .data, .data, .data, .sentinel, .sentinel, .data, .data, .pinned], laidTests := true, laidLooks := .later }
def ParseJoinsUptoCardSaid : Prop := Claim7.holds Tryz.pinned (.plain (OpenSpec.upto parseJoinsSpec)) parseJoinsUptoCard

/-- THE SECOND FORM's CARD OF 'latticelaw06.ParseDeep'. -/
def parseDeepUptoCard : Claim7 := { stood := { row := parseDeepUptoRow, standIns := [], harness := (true, "35447d9b1a6f73357ae427d05f5a8f265b5df5a34397a9c50a7714b026421bc7"), looks := true }, kinds := [], alts := [], laidByText := true, laidKinds := [.data, .data, .data, .data, .sentinel, .sentinel, .data, .data, .pinned], laidTests := true, laidLooks := .later }
def ParseDeepUptoCardSaid : Prop := Claim7.holds Tryz.pinned (.plain (OpenSpec.upto parseDeepSpec)) parseDeepUptoCard

/-- THE SECOND FORM's CARD OF 'latticelaw07.ShowTrees'. -/
def showTreesUptoCard : Claim7 := { stood := { row := showTreesUptoRow, standIns := [], harness := (true, "35447d9b1a6f73357ae427d05f5a8f265b5df5a34397a9c50a7714b026421bc7"), looks := true }, kinds := [], alts := [], laidByText := true, laidKinds := [.data, .data, .data, .data, .sentinel, .sentinel, .data, .data, .pinned], laidTests := true, laidLooks := .later }
def ShowTreesUptoCardSaid : Prop := Claim7.holds Tryz.pinned (.plain (OpenSpec.upto showTreesSpec)) showTreesUptoCard

/-- THE SECOND FORM's CARD OF 'latticelaw07.ShowTidy'. -/
def showTidyUptoCard : Claim7 := { stood := { row := showTidyUptoRow, standIns := [], harness := (true, "35447d9b1a6f73357ae427d05f5a8f265b5df5a34397a9c50a7714b026421bc7"), looks := true }, kinds := [], alts := [], laidByText := true, laidKinds := [.data, .data, .data, .data, .sentinel, .sentinel, .data, .data, .pinned], laidTests := true, laidLooks := .later }
def ShowTidyUptoCardSaid : Prop := Claim7.holds Tryz.pinned (.plain (OpenSpec.upto showTidySpec)) showTidyUptoCard

/-- THE SECOND FORM's CARD OF 'latticelaw07.ShowBack'. -/
def showBackUptoCard : Claim7 := { stood := { row := showBackUptoRow, standIns := [], harness := (true, "35447d9b1a6f73357ae427d05f5a8f265b5df5a34397a9c50a7714b026421bc7"), looks := true }, kinds := [], alts := [], laidByText := true, laidKinds := [.data, .data, .data, .data, .sentinel, .sentinel, .data, .data, .pinned], laidTests := true, laidLooks := .later }
def ShowBackUptoCardSaid : Prop := Claim7.holds Tryz.pinned (.plain (OpenSpec.upto showBackSpec)) showBackUptoCard

/-- THE SECOND FORM's CARD OF 'latticelaw07.ShowStays'. -/
def showStaysUptoCard : Claim7 := { stood := { row := showStaysUptoRow, standIns := [], harness := (true, "35447d9b1a6f73357ae427d05f5a8f265b5df5a34397a9c50a7714b026421bc7"), looks := true }, kinds := [], alts := [], laidByText := true, laidKinds := [.data, .data, .data, .data, .sentinel, .sentinel, .data, .data, .pinned], laidTests := true, laidLooks := .later }
def ShowStaysUptoCardSaid : Prop := Claim7.holds Tryz.pinned (.plain (OpenSpec.upto showStaysSpec)) showStaysUptoCard
end Rows
end Go.Proofs.YtloamahbghjjgaaGreatDoor
