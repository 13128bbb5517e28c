/-
  DERIVED. GIVEN WITH THE SEED: THE CARDS: each row of YtfmanhkeclogfaaGreatDoorRows.lean that lists a variable, with what it lists TIED to the program's text (the seventh form; the later family's looks); each row that meets fmt, with fmt's text TOLD by the authors' own Lean function (tested against real Go, not proved from fmt's source: count such statements apart). THE CARD IS WHAT COUNTS. Prove the row's statement (the work); the ties are given (YtfmanhkeclogfaaGreatDoorTie.lean); close each card by the builder's one call (the guide's Derived/Test/ToyasCard.lean, 'card_holds'). Laid BY PROGRAM, IN A SANDBOX (cutbox-door.mjs). By AI agents, Wed Nov 11 2026. No macro, syntax, notation, axiom, sorry.
-/
import Derived.Test.YtfmanhkeclogfaaGreatDoorRows
import GoSem.ClaimSeven
namespace Go.Proofs.YtfmanhkeclogfaaGreatDoor
namespace Rows

/-- THE TIED CARD OF 'graftlaw9.ObjectTells'. -/
def objectTellsCard : Claim7 := { stood := { row := objectTellsRow, standIns := [], harness := (true, "b2ad4c1bd64d94eb6ef77b8cede6fa7de21bd8f06fd40d7f8fa5e3719044f5f0"), looks := true }, kinds := [], alts := [], laidByText := true, laidKinds := [.data, .data, .data, .sentinel, .sentinel, .listed, .sentinel, .data], laidTests := true, laidLooks := .later }
def ObjectTellsCardSaid : Prop := Claim7.holds Tryz.pinned (.plain (OpenSpec.ofChange objectTellsSpec)) objectTellsCard

/-- THE TIED CARD OF 'graftlaw9.ObjectTurns'. -/
def objectTurnsCard : Claim7 := { stood := { row := objectTurnsRow, standIns := [], harness := (true, "b2ad4c1bd64d94eb6ef77b8cede6fa7de21bd8f06fd40d7f8fa5e3719044f5f0"), looks := true }, kinds := [], alts := [], laidByText := true, laidKinds := [.data, .data, .data, .sentinel, .sentinel, .listed, .sentinel, .data], laidTests := true, laidLooks := .later }
def ObjectTurnsCardSaid : Prop := Claim7.holds Tryz.pinned (.plain (OpenSpec.ofChange objectTurnsSpec)) objectTurnsCard

/-- THE TIED CARD OF 'graftlaw9.ObjectMade'. -/
def objectMadeCard : Claim7 := { stood := { row := objectMadeRow, standIns := [], harness := (true, "b2ad4c1bd64d94eb6ef77b8cede6fa7de21bd8f06fd40d7f8fa5e3719044f5f0"), looks := true }, kinds := [], alts := [], laidByText := true, laidKinds := [.data, .data, .data, .sentinel, .sentinel, .listed, .sentinel, .data], laidTests := true, laidLooks := .later }
def ObjectMadeCardSaid : Prop := Claim7.holds Tryz.pinned (.plain (OpenSpec.ofChange objectMadeSpec)) objectMadeCard

/-- THE TIED CARD OF 'graftlaw9.ObjectUnlike'. -/
def objectUnlikeCard : Claim7 := { stood := { row := objectUnlikeRow, standIns := [], harness := (true, "b2ad4c1bd64d94eb6ef77b8cede6fa7de21bd8f06fd40d7f8fa5e3719044f5f0"), looks := true }, kinds := [], alts := [], laidByText := true, laidKinds := [.data, .data, .data, .sentinel, .sentinel, .listed, .sentinel, .data], laidTests := true, laidLooks := .later }
def ObjectUnlikeCardSaid : Prop := Claim7.holds Tryz.pinned (.plain (OpenSpec.ofChange objectUnlikeSpec)) objectUnlikeCard

/-- THE SECOND FORM's CARD OF 'graftlaw9.ObjectTells'. -/
def objectTellsUptoCard : Claim7 := { stood := { row := objectTellsUptoRow, standIns := [], harness := (true, "b2ad4c1bd64d94eb6ef77b8cede6fa7de21bd8f06fd40d7f8fa5e3719044f5f0"), looks := true }, kinds := [], alts := [], laidByText := true, laidKinds := [.data, .data, .data, .sentinel, .sentinel, .listed, .sentinel, .data], laidTests := true, laidLooks := .later }
def ObjectTellsUptoCardSaid : Prop := Claim7.holds Tryz.pinned (.plain (OpenSpec.upto objectTellsSpec)) objectTellsUptoCard

/-- THE SECOND FORM's CARD OF 'graftlaw9.ObjectTurns'. -/
def objectTurnsUptoCard : Claim7 := { stood := { row := objectTurnsUptoRow, standIns := [], harness := (true, "b2ad4c1bd64d94eb6ef77b8cede6fa7de21bd8f06fd40d7f8fa5e3719044f5f0"), looks := true }, kinds := [], alts := [], laidByText := true, laidKinds := [.data, .data, .data, .sentinel, .sentinel, .listed, .sentinel, .data], laidTests := true, laidLooks := .later }
def ObjectTurnsUptoCardSaid : Prop := Claim7.holds Tryz.pinned (.plain (OpenSpec.upto objectTurnsSpec)) objectTurnsUptoCard

/-- THE SECOND FORM's CARD OF 'graftlaw9.ObjectMade'. -/
def objectMadeUptoCard : Claim7 := { stood := { row := objectMadeUptoRow, standIns := [], harness := (true, "b2ad4c1bd64d94eb6ef77b8cede6fa7de21bd8f06fd40d7f8fa5e3719044f5f0"), looks := true }, kinds := [], alts := [], laidByText := true, laidKinds := [.data, .data, .data, .sentinel, .sentinel, .listed, .sentinel, .data], laidTests := true, laidLooks := .later }
def ObjectMadeUptoCardSaid : Prop := Claim7.holds Tryz.pinned (.plain (OpenSpec.upto objectMadeSpec)) objectMadeUptoCard

/-- THE SECOND FORM's CARD OF 'graftlaw9.ObjectUnlike'. -/
def objectUnlikeUptoCard : Claim7 := { stood := { row := objectUnlikeUptoRow, standIns := [], harness := (true, "b2ad4c1bd64d94eb6ef77b8cede6fa7de21bd8f06fd40d7f8fa5e3719044f5f0"), looks := true }, kinds := [], alts := [], laidByText := true, laidKinds := [.data, .data, .data, .sentinel, .sentinel, .listed, .sentinel, .data], laidTests := true, laidLooks := .later }
def ObjectUnlikeUptoCardSaid : Prop := Claim7.holds Tryz.pinned (.plain (OpenSpec.upto objectUnlikeSpec)) objectUnlikeUptoCard
end Rows
end Go.Proofs.YtfmanhkeclogfaaGreatDoor
