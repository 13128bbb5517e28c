/-
  DERIVED. GIVEN WITH THE SEED: THE CARDS: each row of YtonafbennobgdaaGreatDoorRows.lean that lists a variable, with what it lists TIED to the program's text (the seventh form; the later family's looks); each row that meets fmt, with fmt's text TOLD by the authors' own Lean function (tested against real Go, not proved from fmt's source: count such statements apart). THE CARD IS WHAT COUNTS. Prove the row's statement (the work); the ties are given (YtonafbennobgdaaGreatDoorTie.lean); close each card by the builder's one call (the guide's Derived/Test/ToyasCard.lean, 'card_holds'). Laid BY PROGRAM, IN A SANDBOX (cutbox-door.mjs). By AI agents, Wed Nov 11 2026. No macro, syntax, notation, axiom, sorry.
-/
import Derived.Test.YtonafbennobgdaaGreatDoorRows
import GoSem.ClaimSeven
namespace Go.Proofs.YtonafbennobgdaaGreatDoor
namespace Rows

/-- THE TIED CARD OF 'graftlaw3.LibParses'. -/
def libParsesCard : Claim7 := { stood := { row := libParsesRow, standIns := [], harness := (true, "bee95991f80c8668ebf55cd86c846caa13f220e70b877731ff6e2d4a28b6f3d8"), looks := true }, kinds := [], alts := [], laidByText := true, laidKinds := [.data, .data, .data, .sentinel, .sentinel, .data], laidTests := true, laidLooks := .later }
def LibParsesCardSaid : Prop := Claim7.holds Tryz.pinned (.plain (OpenSpec.ofChange libParsesSpec)) libParsesCard

/-- THE TIED CARD OF 'graftlaw3.LibShows'. -/
def libShowsCard : Claim7 := { stood := { row := libShowsRow, standIns := [], harness := (true, "bee95991f80c8668ebf55cd86c846caa13f220e70b877731ff6e2d4a28b6f3d8"), looks := true }, kinds := [], alts := [], laidByText := true, laidKinds := [.data, .data, .data, .data, .sentinel, .sentinel, .data, .pinned], laidTests := true, laidLooks := .later }
def LibShowsCardSaid : Prop := Claim7.holds Tryz.pinned (.plain (OpenSpec.ofChange libShowsSpec)) libShowsCard

/-- THE TIED CARD OF 'graftlaw3.LibTurns'. -/
def libTurnsCard : Claim7 := { stood := { row := libTurnsRow, standIns := [], harness := (true, "bee95991f80c8668ebf55cd86c846caa13f220e70b877731ff6e2d4a28b6f3d8"), looks := true }, kinds := [], alts := [], laidByText := true, laidKinds := [.data, .data, .data, .data, .sentinel, .sentinel, .data, .pinned], laidTests := true, laidLooks := .later }
def LibTurnsCardSaid : Prop := Claim7.holds Tryz.pinned (.plain (OpenSpec.ofChange libTurnsSpec)) libTurnsCard

/-- THE TIED CARD OF 'graftlaw3.LibFiles'. -/
def libFilesCard : Claim7 := { stood := { row := libFilesRow, standIns := [], harness := (true, "bee95991f80c8668ebf55cd86c846caa13f220e70b877731ff6e2d4a28b6f3d8"), looks := true }, kinds := [], alts := [], laidByText := true, laidKinds := [.data, .data, .data, .sentinel, .sentinel, .data], laidTests := true, laidLooks := .later }
def LibFilesCardSaid : Prop := Claim7.holds Tryz.pinned (.plain (OpenSpec.ofChange libFilesSpec)) libFilesCard

/-- THE TIED CARD OF 'graftlaw3.LibElse'. -/
def libElseCard : Claim7 := { stood := { row := libElseRow, standIns := [], harness := (true, "bee95991f80c8668ebf55cd86c846caa13f220e70b877731ff6e2d4a28b6f3d8"), looks := true }, kinds := [], alts := [], laidByText := true, laidKinds := [.data, .data, .data, .sentinel, .sentinel, .data], laidTests := true, laidLooks := .later }
def LibElseCardSaid : Prop := Claim7.holds Tryz.pinned (.plain (OpenSpec.ofChange libElseSpec)) libElseCard

/-- THE TIED CARD OF 'graftlaw3.LibSplit'. -/
def libSplitCard : Claim7 := { stood := { row := libSplitRow, standIns := [], harness := (true, "bee95991f80c8668ebf55cd86c846caa13f220e70b877731ff6e2d4a28b6f3d8"), looks := true }, kinds := [], alts := [], laidByText := true, laidKinds := [.data, .data, .data, .sentinel, .sentinel, .data], laidTests := true, laidLooks := .later }
def LibSplitCardSaid : Prop := Claim7.holds Tryz.pinned (.plain (OpenSpec.ofChange libSplitSpec)) libSplitCard

/-- THE SECOND FORM's CARD OF 'graftlaw3.LibParses'. -/
def libParsesUptoCard : Claim7 := { stood := { row := libParsesUptoRow, standIns := [], harness := (true, "bee95991f80c8668ebf55cd86c846caa13f220e70b877731ff6e2d4a28b6f3d8"), looks := true }, kinds := [], alts := [], laidByText := true, laidKinds := [.data, .data, .data, .sentinel, .sentinel, .data], laidTests := true, laidLooks := .later }
def LibParsesUptoCardSaid : Prop := Claim7.holds Tryz.pinned (.plain (OpenSpec.upto libParsesSpec)) libParsesUptoCard

/-- THE SECOND FORM's CARD OF 'graftlaw3.LibShows'. -/
def libShowsUptoCard : Claim7 := { stood := { row := libShowsUptoRow, standIns := [], harness := (true, "bee95991f80c8668ebf55cd86c846caa13f220e70b877731ff6e2d4a28b6f3d8"), looks := true }, kinds := [], alts := [], laidByText := true, laidKinds := [.data, .data, .data, .data, .sentinel, .sentinel, .data, .pinned], laidTests := true, laidLooks := .later }
def LibShowsUptoCardSaid : Prop := Claim7.holds Tryz.pinned (.plain (OpenSpec.upto libShowsSpec)) libShowsUptoCard

/-- THE SECOND FORM's CARD OF 'graftlaw3.LibTurns'. -/
def libTurnsUptoCard : Claim7 := { stood := { row := libTurnsUptoRow, standIns := [], harness := (true, "bee95991f80c8668ebf55cd86c846caa13f220e70b877731ff6e2d4a28b6f3d8"), looks := true }, kinds := [], alts := [], laidByText := true, laidKinds := [.data, .data, .data, .data, .sentinel, .sentinel, .data, .pinned], laidTests := true, laidLooks := .later }
def LibTurnsUptoCardSaid : Prop := Claim7.holds Tryz.pinned (.plain (OpenSpec.upto libTurnsSpec)) libTurnsUptoCard

/-- THE SECOND FORM's CARD OF 'graftlaw3.LibFiles'. -/
def libFilesUptoCard : Claim7 := { stood := { row := libFilesUptoRow, standIns := [], harness := (true, "bee95991f80c8668ebf55cd86c846caa13f220e70b877731ff6e2d4a28b6f3d8"), looks := true }, kinds := [], alts := [], laidByText := true, laidKinds := [.data, .data, .data, .sentinel, .sentinel, .data], laidTests := true, laidLooks := .later }
def LibFilesUptoCardSaid : Prop := Claim7.holds Tryz.pinned (.plain (OpenSpec.upto libFilesSpec)) libFilesUptoCard

/-- THE SECOND FORM's CARD OF 'graftlaw3.LibElse'. -/
def libElseUptoCard : Claim7 := { stood := { row := libElseUptoRow, standIns := [], harness := (true, "bee95991f80c8668ebf55cd86c846caa13f220e70b877731ff6e2d4a28b6f3d8"), looks := true }, kinds := [], alts := [], laidByText := true, laidKinds := [.data, .data, .data, .sentinel, .sentinel, .data], laidTests := true, laidLooks := .later }
def LibElseUptoCardSaid : Prop := Claim7.holds Tryz.pinned (.plain (OpenSpec.upto libElseSpec)) libElseUptoCard

/-- THE SECOND FORM's CARD OF 'graftlaw3.LibSplit'. -/
def libSplitUptoCard : Claim7 := { stood := { row := libSplitUptoRow, standIns := [], harness := (true, "bee95991f80c8668ebf55cd86c846caa13f220e70b877731ff6e2d4a28b6f3d8"), looks := true }, kinds := [], alts := [], laidByText := true, laidKinds := [.data, .data, .data, .sentinel, .sentinel, .data], laidTests := true, laidLooks := .later }
def LibSplitUptoCardSaid : Prop := Claim7.holds Tryz.pinned (.plain (OpenSpec.upto libSplitSpec)) libSplitUptoCard
end Rows
end Go.Proofs.YtonafbennobgdaaGreatDoor
