/-
  DERIVED. GIVEN WITH THE SEED: THE CARDS: each row of YtgeedaabdonjcaeGreatDoorRows.lean that lists a variable, with what it lists TIED to the program's text (the seventh form; the later family's looks); each row that meets fmt, with fmt's text TOLD by the authors' own Lean function (tested against real Go, not proved from fmt's source: count such statements apart). THE CARD IS WHAT COUNTS. Prove the row's statement (the work); the ties are given (YtgeedaabdonjcaeGreatDoorTie.lean); close each card by the builder's one call (the guide's Derived/Test/ToyasCard.lean, 'card_holds'). Laid BY PROGRAM, IN A SANDBOX (cutbox-door.mjs). By AI agents, Wed Nov 11 2026. No macro, syntax, notation, axiom, sorry.
-/
import Derived.Test.YtgeedaabdonjcaeGreatDoorRows
import GoSem.ClaimSeven
namespace Go.Proofs.YtgeedaabdonjcaeGreatDoor
namespace Rows

/-- THE TIED CARD OF 'graftlaw5.MacroStamps'. -/
def macroStampsCard : Claim7 := { stood := { row := macroStampsRow, standIns := [], harness := (true, "3be37e2444e78095914e22f91f4ed0378617f504f4acbdc6fc81090d61c4cde9"), looks := true }, kinds := [], alts := [], laidByText := true, laidKinds := [.data, .data, .data, .sentinel, .sentinel], laidTests := true, laidLooks := .later }
def MacroStampsCardSaid : Prop := Claim7.holds Tryz.pinned (.plain (OpenSpec.ofChange macroStampsSpec)) macroStampsCard

/-- THE TIED CARD OF 'graftlaw5.MacroFirst'. -/
def macroFirstCard : Claim7 := { stood := { row := macroFirstRow, standIns := [], harness := (true, "3be37e2444e78095914e22f91f4ed0378617f504f4acbdc6fc81090d61c4cde9"), looks := true }, kinds := [], alts := [], laidByText := true, laidKinds := [.data, .data, .data, .sentinel, .sentinel], laidTests := true, laidLooks := .later }
def MacroFirstCardSaid : Prop := Claim7.holds Tryz.pinned (.plain (OpenSpec.ofChange macroFirstSpec)) macroFirstCard

/-- THE TIED CARD OF 'graftlaw5.MacroNames'. -/
def macroNamesCard : Claim7 := { stood := { row := macroNamesRow, standIns := [], harness := (true, "3be37e2444e78095914e22f91f4ed0378617f504f4acbdc6fc81090d61c4cde9"), looks := true }, kinds := [], alts := [], laidByText := true, laidKinds := [.data, .data, .data, .sentinel, .sentinel], laidTests := true, laidLooks := .later }
def MacroNamesCardSaid : Prop := Claim7.holds Tryz.pinned (.plain (OpenSpec.ofChange macroNamesSpec)) macroNamesCard

/-- THE TIED CARD OF 'graftlaw5.MacroSelf'. -/
def macroSelfCard : Claim7 := { stood := { row := macroSelfRow, standIns := [], harness := (true, "3be37e2444e78095914e22f91f4ed0378617f504f4acbdc6fc81090d61c4cde9"), looks := true }, kinds := [], alts := [], laidByText := true, laidKinds := [.data, .data, .data, .sentinel, .sentinel], laidTests := true, laidLooks := .later }
def MacroSelfCardSaid : Prop := Claim7.holds Tryz.pinned (.plain (OpenSpec.ofChange macroSelfSpec)) macroSelfCard

/-- THE TIED CARD OF 'graftlaw5.MacroMany'. -/
def macroManyCard : Claim7 := { stood := { row := macroManyRow, standIns := [], harness := (true, "3be37e2444e78095914e22f91f4ed0378617f504f4acbdc6fc81090d61c4cde9"), looks := true }, kinds := [], alts := [], laidByText := true, laidKinds := [.data, .data, .data, .sentinel, .sentinel], laidTests := true, laidLooks := .later }
def MacroManyCardSaid : Prop := Claim7.holds Tryz.pinned (.plain (OpenSpec.ofChange macroManySpec)) macroManyCard

/-- THE TIED CARD OF 'graftlaw6.ExpandTells'. -/
def expandTellsCard : Claim7 := { stood := { row := expandTellsRow, standIns := [], harness := (true, "3be37e2444e78095914e22f91f4ed0378617f504f4acbdc6fc81090d61c4cde9"), looks := true }, kinds := [], alts := [], laidByText := true, laidKinds := [.listed, .data], laidTests := true, laidLooks := .later }
def ExpandTellsCardSaid : Prop := Claim7.holds Tryz.pinned (.plain (OpenSpec.ofChange expandTellsSpec)) expandTellsCard

/-- THE SECOND FORM's CARD OF 'graftlaw5.MacroStamps'. -/
def macroStampsUptoCard : Claim7 := { stood := { row := macroStampsUptoRow, standIns := [], harness := (true, "3be37e2444e78095914e22f91f4ed0378617f504f4acbdc6fc81090d61c4cde9"), looks := true }, kinds := [], alts := [], laidByText := true, laidKinds := [.data, .data, .data, .sentinel, .sentinel], laidTests := true, laidLooks := .later }
def MacroStampsUptoCardSaid : Prop := Claim7.holds Tryz.pinned (.plain (OpenSpec.upto macroStampsSpec)) macroStampsUptoCard

/-- THE SECOND FORM's CARD OF 'graftlaw5.MacroFirst'. -/
def macroFirstUptoCard : Claim7 := { stood := { row := macroFirstUptoRow, standIns := [], harness := (true, "3be37e2444e78095914e22f91f4ed0378617f504f4acbdc6fc81090d61c4cde9"), looks := true }, kinds := [], alts := [], laidByText := true, laidKinds := [.data, .data, .data, .sentinel, .sentinel], laidTests := true, laidLooks := .later }
def MacroFirstUptoCardSaid : Prop := Claim7.holds Tryz.pinned (.plain (OpenSpec.upto macroFirstSpec)) macroFirstUptoCard

/-- THE SECOND FORM's CARD OF 'graftlaw5.MacroNames'. -/
def macroNamesUptoCard : Claim7 := { stood := { row := macroNamesUptoRow, standIns := [], harness := (true, "3be37e2444e78095914e22f91f4ed0378617f504f4acbdc6fc81090d61c4cde9"), looks := true }, kinds := [], alts := [], laidByText := true, laidKinds := [.data, .data, .data, .sentinel, .sentinel], laidTests := true, laidLooks := .later }
def MacroNamesUptoCardSaid : Prop := Claim7.holds Tryz.pinned (.plain (OpenSpec.upto macroNamesSpec)) macroNamesUptoCard

/-- THE SECOND FORM's CARD OF 'graftlaw5.MacroSelf'. -/
def macroSelfUptoCard : Claim7 := { stood := { row := macroSelfUptoRow, standIns := [], harness := (true, "3be37e2444e78095914e22f91f4ed0378617f504f4acbdc6fc81090d61c4cde9"), looks := true }, kinds := [], alts := [], laidByText := true, laidKinds := [.data, .data, .data, .sentinel, .sentinel], laidTests := true, laidLooks := .later }
def MacroSelfUptoCardSaid : Prop := Claim7.holds Tryz.pinned (.plain (OpenSpec.upto macroSelfSpec)) macroSelfUptoCard

/-- THE SECOND FORM's CARD OF 'graftlaw5.MacroMany'. -/
def macroManyUptoCard : Claim7 := { stood := { row := macroManyUptoRow, standIns := [], harness := (true, "3be37e2444e78095914e22f91f4ed0378617f504f4acbdc6fc81090d61c4cde9"), looks := true }, kinds := [], alts := [], laidByText := true, laidKinds := [.data, .data, .data, .sentinel, .sentinel], laidTests := true, laidLooks := .later }
def MacroManyUptoCardSaid : Prop := Claim7.holds Tryz.pinned (.plain (OpenSpec.upto macroManySpec)) macroManyUptoCard

/-- THE SECOND FORM's CARD OF 'graftlaw6.ExpandTells'. -/
def expandTellsUptoCard : Claim7 := { stood := { row := expandTellsUptoRow, standIns := [], harness := (true, "3be37e2444e78095914e22f91f4ed0378617f504f4acbdc6fc81090d61c4cde9"), looks := true }, kinds := [], alts := [], laidByText := true, laidKinds := [.listed, .data], laidTests := true, laidLooks := .later }
def ExpandTellsUptoCardSaid : Prop := Claim7.holds Tryz.pinned (.plain (OpenSpec.upto expandTellsSpec)) expandTellsUptoCard
end Rows
end Go.Proofs.YtgeedaabdonjcaeGreatDoor
