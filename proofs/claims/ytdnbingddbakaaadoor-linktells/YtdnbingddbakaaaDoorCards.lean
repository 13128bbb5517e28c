/-
  DERIVED. GIVEN WITH THE SEED: THE CARDS: each row of YtdnbingddbakaaaDoorRows.lean that lists a variable, with what it lists TIED to the program's text (the seventh form; the later family's looks); each row that meets fmt, with fmt's text TOLD by the authors' own Lean function (tested against real Go, not proved from fmt's source: count such statements apart). THE CARD IS WHAT COUNTS. Prove the row's statement (the work); the ties are given (YtdnbingddbakaaaDoorTie.lean); close each card by the builder's one call (the guide's Derived/Test/ToyasCard.lean, 'card_holds'). Laid BY PROGRAM, IN A SANDBOX (cutbox-door.mjs). By AI agents, Wed Nov 11 2026. No macro, syntax, notation, axiom, sorry.
-/
import Derived.Test.YtdnbingddbakaaaDoorRows
import GoSem.ClaimSeven
namespace Go.Proofs.YtdnbingddbakaaaDoor
namespace Rows

/-- THE TIED CARD OF 'graftlaw10.LinkTells'. -/
def linkTellsCard : Claim7 := { stood := { row := linkTellsRow, standIns := [], harness := (true, "b134b3b0798a7d303697bd82d8cbcea76b2296f9b31a2746eece090698df05d1"), looks := false }, kinds := [], alts := [], laidByText := true, laidKinds := [.listed, .data], laidTests := true, laidLooks := .later }
def LinkTellsCardSaid : Prop := Claim7.holds Tryd.pinned (.plain (OpenSpec.ofChange linkTellsSpec)) linkTellsCard

/-- THE TIED CARD OF 'graftlaw10.LinkRight'. -/
def linkRightCard : Claim7 := { stood := { row := linkRightRow, standIns := [], harness := (true, "b134b3b0798a7d303697bd82d8cbcea76b2296f9b31a2746eece090698df05d1"), looks := false }, kinds := [], alts := [], laidByText := true, laidKinds := [.listed, .data], laidTests := true, laidLooks := .later }
def LinkRightCardSaid : Prop := Claim7.holds Tryd.pinned (.plain (OpenSpec.ofChange linkRightSpec)) linkRightCard

/-- THE TIED CARD OF 'graftlaw10.LinkAhead'. -/
def linkAheadCard : Claim7 := { stood := { row := linkAheadRow, standIns := [], harness := (true, "b134b3b0798a7d303697bd82d8cbcea76b2296f9b31a2746eece090698df05d1"), looks := false }, kinds := [], alts := [], laidByText := true, laidKinds := [.listed, .data], laidTests := true, laidLooks := .later }
def LinkAheadCardSaid : Prop := Claim7.holds Tryd.pinned (.plain (OpenSpec.ofChange linkAheadSpec)) linkAheadCard

/-- THE TIED CARD OF 'graftlaw10.LinkOne'. -/
def linkOneCard : Claim7 := { stood := { row := linkOneRow, standIns := [], harness := (true, "b134b3b0798a7d303697bd82d8cbcea76b2296f9b31a2746eece090698df05d1"), looks := false }, kinds := [], alts := [], laidByText := true, laidKinds := [.listed, .data], laidTests := true, laidLooks := .later }
def LinkOneCardSaid : Prop := Claim7.holds Tryd.pinned (.plain (OpenSpec.ofChange linkOneSpec)) linkOneCard

/-- THE SECOND FORM's CARD OF 'graftlaw10.LinkTells'. -/
def linkTellsUptoCard : Claim7 := { stood := { row := linkTellsUptoRow, standIns := [], harness := (true, "b134b3b0798a7d303697bd82d8cbcea76b2296f9b31a2746eece090698df05d1"), looks := false }, kinds := [], alts := [], laidByText := true, laidKinds := [.listed, .data], laidTests := true, laidLooks := .later }
def LinkTellsUptoCardSaid : Prop := Claim7.holds Tryd.pinned (.plain (OpenSpec.upto linkTellsSpec)) linkTellsUptoCard

/-- THE SECOND FORM's CARD OF 'graftlaw10.LinkRight'. -/
def linkRightUptoCard : Claim7 := { stood := { row := linkRightUptoRow, standIns := [], harness := (true, "b134b3b0798a7d303697bd82d8cbcea76b2296f9b31a2746eece090698df05d1"), looks := false }, kinds := [], alts := [], laidByText := true, laidKinds := [.listed, .data], laidTests := true, laidLooks := .later }
def LinkRightUptoCardSaid : Prop := Claim7.holds Tryd.pinned (.plain (OpenSpec.upto linkRightSpec)) linkRightUptoCard

/-- THE SECOND FORM's CARD OF 'graftlaw10.LinkAhead'. -/
def linkAheadUptoCard : Claim7 := { stood := { row := linkAheadUptoRow, standIns := [], harness := (true, "b134b3b0798a7d303697bd82d8cbcea76b2296f9b31a2746eece090698df05d1"), looks := false }, kinds := [], alts := [], laidByText := true, laidKinds := [.listed, .data], laidTests := true, laidLooks := .later }
def LinkAheadUptoCardSaid : Prop := Claim7.holds Tryd.pinned (.plain (OpenSpec.upto linkAheadSpec)) linkAheadUptoCard

/-- THE SECOND FORM's CARD OF 'graftlaw10.LinkOne'. -/
def linkOneUptoCard : Claim7 := { stood := { row := linkOneUptoRow, standIns := [], harness := (true, "b134b3b0798a7d303697bd82d8cbcea76b2296f9b31a2746eece090698df05d1"), looks := false }, kinds := [], alts := [], laidByText := true, laidKinds := [.listed, .data], laidTests := true, laidLooks := .later }
def LinkOneUptoCardSaid : Prop := Claim7.holds Tryd.pinned (.plain (OpenSpec.upto linkOneSpec)) linkOneUptoCard
end Rows
end Go.Proofs.YtdnbingddbakaaaDoor
