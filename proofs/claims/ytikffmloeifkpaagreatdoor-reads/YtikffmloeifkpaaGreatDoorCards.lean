/-
  DERIVED. GIVEN WITH THE SEED: THE CARDS: each row of YtikffmloeifkpaaGreatDoorRows.lean that lists a variable, with what it lists TIED to the program's text (the seventh form; the later family's looks); each row that meets fmt, with fmt's text TOLD by the authors' own Lean function (tested against real Go, not proved from fmt's source: count such statements apart). THE CARD IS WHAT COUNTS. Prove the row's statement (the work); the ties are given (YtikffmloeifkpaaGreatDoorTie.lean); close each card by the builder's one call (the guide's Derived/Test/ToyasCard.lean, 'card_holds'). Laid BY PROGRAM, IN A SANDBOX (cutbox-door.mjs). By AI agents, Wed Nov 11 2026. No macro, syntax, notation, axiom, sorry.
-/
import Derived.Test.YtikffmloeifkpaaGreatDoorRows
import GoSem.ClaimSeven
namespace Go.Proofs.YtikffmloeifkpaaGreatDoor
namespace Rows

/-- THE TIED CARD OF 'surefootlaw.Reads'. -/
def readsCard : Claim7 := { stood := { row := readsRow, standIns := [], harness := (true, "4727323c53977e0fb5faa54de37c182f9aa9a0624ed2a940306ee8f3fccec8a5"), looks := true }, kinds := [], alts := [], laidByText := true, laidKinds := [.data], laidTests := true, laidLooks := .later }
def ReadsCardSaid : Prop := Claim7.holds Tryz.pinned (.plain (OpenSpec.ofChange readsSpec)) readsCard

/-- THE TIED CARD OF 'surefootlaw.Walks'. -/
def walksCard : Claim7 := { stood := { row := walksRow, standIns := [], harness := (true, "4727323c53977e0fb5faa54de37c182f9aa9a0624ed2a940306ee8f3fccec8a5"), looks := true }, kinds := [], alts := [], laidByText := true, laidKinds := [.data], laidTests := true, laidLooks := .later }
def WalksCardSaid : Prop := Claim7.holds Tryz.pinned (.plain (OpenSpec.ofChange walksSpec)) walksCard

/-- THE TIED CARD OF 'surefootkeep.Less'. -/
def lessCard : Claim7 := { stood := { row := lessRow, standIns := [], harness := (true, "4727323c53977e0fb5faa54de37c182f9aa9a0624ed2a940306ee8f3fccec8a5"), looks := true }, kinds := [], alts := [], laidByText := true, laidKinds := [.data], laidTests := true, laidLooks := .later }
def LessCardSaid : Prop := Claim7.holds Tryz.pinned (.plain (OpenSpec.ofChange lessSpec)) lessCard

/-- THE TIED CARD OF 'surefootkeep.Reckoned'. -/
def reckonedCard : Claim7 := { stood := { row := reckonedRow, standIns := [], harness := (true, "4727323c53977e0fb5faa54de37c182f9aa9a0624ed2a940306ee8f3fccec8a5"), looks := true }, kinds := [], alts := [], laidByText := true, laidKinds := [.data], laidTests := true, laidLooks := .later }
def ReckonedCardSaid : Prop := Claim7.holds Tryz.pinned (.plain (OpenSpec.ofChange reckonedSpec)) reckonedCard

/-- THE TIED CARD OF 'surefootlaw.Sites'. -/
def sitesCard : Claim7 := { stood := { row := sitesRow, standIns := [], harness := (true, "4727323c53977e0fb5faa54de37c182f9aa9a0624ed2a940306ee8f3fccec8a5"), looks := true }, kinds := [], alts := [], laidByText := true, laidKinds := [.data], laidTests := true, laidLooks := .later }
def SitesCardSaid : Prop := Claim7.holds Tryz.pinned (.plain (OpenSpec.ofChange sitesSpec)) sitesCard

/-- THE TIED CARD OF 'surefootkeep.Careful'. -/
def carefulCard : Claim7 := { stood := { row := carefulRow, standIns := [], harness := (true, "4727323c53977e0fb5faa54de37c182f9aa9a0624ed2a940306ee8f3fccec8a5"), looks := true }, kinds := [], alts := [], laidByText := true, laidKinds := [.data], laidTests := true, laidLooks := .later }
def CarefulCardSaid : Prop := Claim7.holds Tryz.pinned (.plain (OpenSpec.ofChange carefulSpec)) carefulCard

/-- THE TIED CARD OF 'surefootkeep.Plain'. -/
def plainCard : Claim7 := { stood := { row := plainRow, standIns := [], harness := (true, "4727323c53977e0fb5faa54de37c182f9aa9a0624ed2a940306ee8f3fccec8a5"), looks := true }, kinds := [], alts := [], laidByText := true, laidKinds := [.data], laidTests := true, laidLooks := .later }
def PlainCardSaid : Prop := Claim7.holds Tryz.pinned (.plain (OpenSpec.ofChange plainSpec)) plainCard

/-- THE TIED CARD OF 'surefootkeep.Printed'. -/
def printedCard : Claim7 := { stood := { row := printedRow, standIns := [], harness := (true, "4727323c53977e0fb5faa54de37c182f9aa9a0624ed2a940306ee8f3fccec8a5"), looks := true }, kinds := [], alts := [], laidByText := true, laidKinds := [.data, .data, .data, .data], laidTests := true, laidLooks := .later }
def PrintedCardSaid : Prop := Claim7.holds Tryz.pinned (.plain (OpenSpec.ofChange printedSpec)) printedCard

/-- THE TIED CARD OF 'surefootlaw.Codes'. -/
def codesCard : Claim7 := { stood := { row := codesRow, standIns := [], harness := (true, "4727323c53977e0fb5faa54de37c182f9aa9a0624ed2a940306ee8f3fccec8a5"), looks := true }, kinds := [], alts := [], laidByText := true, laidKinds := [.data], laidTests := true, laidLooks := .later }
def CodesCardSaid : Prop := Claim7.holds Tryz.pinned (.plain (OpenSpec.ofChange codesSpec)) codesCard

/-- THE TIED CARD OF 'surefootkeep.Coded'. -/
def codedCard : Claim7 := { stood := { row := codedRow, standIns := [], harness := (true, "4727323c53977e0fb5faa54de37c182f9aa9a0624ed2a940306ee8f3fccec8a5"), looks := true }, kinds := [], alts := [], laidByText := true, laidKinds := [.data], laidTests := true, laidLooks := .later }
def CodedCardSaid : Prop := Claim7.holds Tryz.pinned (.plain (OpenSpec.ofChange codedSpec)) codedCard

/-- THE TIED CARD OF 'surefootkeep.Loaded'. -/
def loadedCard : Claim7 := { stood := { row := loadedRow, standIns := [], harness := (true, "4727323c53977e0fb5faa54de37c182f9aa9a0624ed2a940306ee8f3fccec8a5"), looks := true }, kinds := [], alts := [], laidByText := true, laidKinds := [.data], laidTests := true, laidLooks := .later }
def LoadedCardSaid : Prop := Claim7.holds Tryz.pinned (.plain (OpenSpec.ofChange loadedSpec)) loadedCard

/-- THE SECOND FORM's CARD OF 'surefootlaw.Reads'. -/
def readsUptoCard : Claim7 := { stood := { row := readsUptoRow, standIns := [], harness := (true, "4727323c53977e0fb5faa54de37c182f9aa9a0624ed2a940306ee8f3fccec8a5"), looks := true }, kinds := [], alts := [], laidByText := true, laidKinds := [.data], laidTests := true, laidLooks := .later }
def ReadsUptoCardSaid : Prop := Claim7.holds Tryz.pinned (.plain (OpenSpec.upto readsSpec)) readsUptoCard

/-- THE SECOND FORM's CARD OF 'surefootlaw.Walks'. -/
def walksUptoCard : Claim7 := { stood := { row := walksUptoRow, standIns := [], harness := (true, "4727323c53977e0fb5faa54de37c182f9aa9a0624ed2a940306ee8f3fccec8a5"), looks := true }, kinds := [], alts := [], laidByText := true, laidKinds := [.data], laidTests := true, laidLooks := .later }
def WalksUptoCardSaid : Prop := Claim7.holds Tryz.pinned (.plain (OpenSpec.upto walksSpec)) walksUptoCard

/-- THE SECOND FORM's CARD OF 'surefootkeep.Less'. -/
def lessUptoCard : Claim7 := { stood := { row := lessUptoRow, standIns := [], harness := (true, "4727323c53977e0fb5faa54de37c182f9aa9a0624ed2a940306ee8f3fccec8a5"), looks := true }, kinds := [], alts := [], laidByText := true, laidKinds := [.data], laidTests := true, laidLooks := .later }
def LessUptoCardSaid : Prop := Claim7.holds Tryz.pinned (.plain (OpenSpec.upto lessSpec)) lessUptoCard

/-- THE SECOND FORM's CARD OF 'surefootkeep.Reckoned'. -/
def reckonedUptoCard : Claim7 := { stood := { row := reckonedUptoRow, standIns := [], harness := (true, "4727323c53977e0fb5faa54de37c182f9aa9a0624ed2a940306ee8f3fccec8a5"), looks := true }, kinds := [], alts := [], laidByText := true, laidKinds := [.data], laidTests := true, laidLooks := .later }
def ReckonedUptoCardSaid : Prop := Claim7.holds Tryz.pinned (.plain (OpenSpec.upto reckonedSpec)) reckonedUptoCard

/-- THE SECOND FORM's CARD OF 'surefootlaw.Sites'. -/
def sitesUptoCard : Claim7 := { stood := { row := sitesUptoRow, standIns := [], harness := (true, "4727323c53977e0fb5faa54de37c182f9aa9a0624ed2a940306ee8f3fccec8a5"), looks := true }, kinds := [], alts := [], laidByText := true, laidKinds := [.data], laidTests := true, laidLooks := .later }
def SitesUptoCardSaid : Prop := Claim7.holds Tryz.pinned (.plain (OpenSpec.upto sitesSpec)) sitesUptoCard

/-- THE SECOND FORM's CARD OF 'surefootkeep.Careful'. -/
def carefulUptoCard : Claim7 := { stood := { row := carefulUptoRow, standIns := [], harness := (true, "4727323c53977e0fb5faa54de37c182f9aa9a0624ed2a940306ee8f3fccec8a5"), looks := true }, kinds := [], alts := [], laidByText := true, laidKinds := [.data], laidTests := true, laidLooks := .later }
def CarefulUptoCardSaid : Prop := Claim7.holds Tryz.pinned (.plain (OpenSpec.upto carefulSpec)) carefulUptoCard

/-- THE SECOND FORM's CARD OF 'surefootkeep.Plain'. -/
def plainUptoCard : Claim7 := { stood := { row := plainUptoRow, standIns := [], harness := (true, "4727323c53977e0fb5faa54de37c182f9aa9a0624ed2a940306ee8f3fccec8a5"), looks := true }, kinds := [], alts := [], laidByText := true, laidKinds := [.data], laidTests := true, laidLooks := .later }
def PlainUptoCardSaid : Prop := Claim7.holds Tryz.pinned (.plain (OpenSpec.upto plainSpec)) plainUptoCard

/-- THE SECOND FORM's CARD OF 'surefootkeep.Printed'. -/
def printedUptoCard : Claim7 := { stood := { row := printedUptoRow, standIns := [], harness := (true, "4727323c53977e0fb5faa54de37c182f9aa9a0624ed2a940306ee8f3fccec8a5"), looks := true }, kinds := [], alts := [], laidByText := true, laidKinds := [.data, .data, .data, .data], laidTests := true, laidLooks := .later }
def PrintedUptoCardSaid : Prop := Claim7.holds Tryz.pinned (.plain (OpenSpec.upto printedSpec)) printedUptoCard

/-- THE SECOND FORM's CARD OF 'surefootlaw.Codes'. -/
def codesUptoCard : Claim7 := { stood := { row := codesUptoRow, standIns := [], harness := (true, "4727323c53977e0fb5faa54de37c182f9aa9a0624ed2a940306ee8f3fccec8a5"), looks := true }, kinds := [], alts := [], laidByText := true, laidKinds := [.data], laidTests := true, laidLooks := .later }
def CodesUptoCardSaid : Prop := Claim7.holds Tryz.pinned (.plain (OpenSpec.upto codesSpec)) codesUptoCard

/-- THE SECOND FORM's CARD OF 'surefootkeep.Coded'. -/
def codedUptoCard : Claim7 := { stood := { row := codedUptoRow, standIns := [], harness := (true, "4727323c53977e0fb5faa54de37c182f9aa9a0624ed2a940306ee8f3fccec8a5"), looks := true }, kinds := [], alts := [], laidByText := true, laidKinds := [.data], laidTests := true, laidLooks := .later }
def CodedUptoCardSaid : Prop := Claim7.holds Tryz.pinned (.plain (OpenSpec.upto codedSpec)) codedUptoCard

/-- THE SECOND FORM's CARD OF 'surefootkeep.Loaded'. -/
def loadedUptoCard : Claim7 := { stood := { row := loadedUptoRow, standIns := [], harness := (true, "4727323c53977e0fb5faa54de37c182f9aa9a0624ed2a940306ee8f3fccec8a5"), looks := true }, kinds := [], alts := [], laidByText := true, laidKinds := [.data], laidTests := true, laidLooks := .later }
def LoadedUptoCardSaid : Prop := Claim7.holds Tryz.pinned (.plain (OpenSpec.upto loadedSpec)) loadedUptoCard
end Rows
end Go.Proofs.YtikffmloeifkpaaGreatDoor
