/-
  DERIVED. GIVEN WITH THE SEED: THE CARDS: each row of YthikdpclifeonaaGreatDoorRows.lean that lists a variable, with what it lists TIED to the program's text (the seventh form; the later family's looks); each row that meets fmt, with fmt's text TOLD by the authors' own Lean function (tested against real Go, not proved from fmt's source: count such statements apart). THE CARD IS WHAT COUNTS. Prove the row's statement (the work); the ties are given (YthikdpclifeonaaGreatDoorTie.lean); close each card by the builder's one call (the guide's Derived/Test/ToyasCard.lean, 'card_holds'). Laid BY PROGRAM, IN A SANDBOX (cutbox-door.mjs). By AI agents, Wed Nov 11 2026. No macro, syntax, notation, axiom, sorry.
-/
import Derived.Test.YthikdpclifeonaaGreatDoorRows
import GoSem.ClaimSeven
namespace Go.Proofs.YthikdpclifeonaaGreatDoor
namespace Rows

/-- THE TIED CARD OF 'graftlaw11.MachineTells'. -/
def machineTellsCard : Claim7 := { stood := { row := machineTellsRow, standIns := [], harness := (true, "bc5e1e4bd5614c19816fe0bb00100f24c71c32f0bad1fa7828d0db5ee39f3299"), looks := true }, kinds := [], alts := [], laidByText := true, laidKinds := [.data, .data, .data, .listed, .data], laidTests := true, laidLooks := .later }
def MachineTellsCardSaid : Prop := Claim7.holds Tryz.pinned (.plain (OpenSpec.ofChange machineTellsSpec)) machineTellsCard

/-- THE TIED CARD OF 'graftlaw11.MachineRight'. -/
def machineRightCard : Claim7 := { stood := { row := machineRightRow, standIns := [], harness := (true, "bc5e1e4bd5614c19816fe0bb00100f24c71c32f0bad1fa7828d0db5ee39f3299"), looks := true }, kinds := [], alts := [], laidByText := true, laidKinds := [.data, .data, .data, .listed, .data], laidTests := true, laidLooks := .later }
def MachineRightCardSaid : Prop := Claim7.holds Tryz.pinned (.plain (OpenSpec.ofChange machineRightSpec)) machineRightCard

/-- THE TIED CARD OF 'graftlaw11.MachineMore'. -/
def machineMoreCard : Claim7 := { stood := { row := machineMoreRow, standIns := [], harness := (true, "bc5e1e4bd5614c19816fe0bb00100f24c71c32f0bad1fa7828d0db5ee39f3299"), looks := true }, kinds := [], alts := [], laidByText := true, laidKinds := [.data, .data, .data, .listed, .data], laidTests := true, laidLooks := .later }
def MachineMoreCardSaid : Prop := Claim7.holds Tryz.pinned (.plain (OpenSpec.ofChange machineMoreSpec)) machineMoreCard

/-- THE TIED CARD OF 'graftlaw11.MachineWell'. -/
def machineWellCard : Claim7 := { stood := { row := machineWellRow, standIns := [], harness := (true, "bc5e1e4bd5614c19816fe0bb00100f24c71c32f0bad1fa7828d0db5ee39f3299"), looks := true }, kinds := [], alts := [], laidByText := true, laidKinds := [.data, .data, .data, .listed, .data], laidTests := true, laidLooks := .later }
def MachineWellCardSaid : Prop := Claim7.holds Tryz.pinned (.plain (OpenSpec.ofChange machineWellSpec)) machineWellCard

/-- THE SECOND FORM's CARD OF 'graftlaw11.MachineTells'. -/
def machineTellsUptoCard : Claim7 := { stood := { row := machineTellsUptoRow, standIns := [], harness := (true, "bc5e1e4bd5614c19816fe0bb00100f24c71c32f0bad1fa7828d0db5ee39f3299"), looks := true }, kinds := [], alts := [], laidByText := true, laidKinds := [.data, .data, .data, .listed, .data], laidTests := true, laidLooks := .later }
def MachineTellsUptoCardSaid : Prop := Claim7.holds Tryz.pinned (.plain (OpenSpec.upto machineTellsSpec)) machineTellsUptoCard

/-- THE SECOND FORM's CARD OF 'graftlaw11.MachineRight'. -/
def machineRightUptoCard : Claim7 := { stood := { row := machineRightUptoRow, standIns := [], harness := (true, "bc5e1e4bd5614c19816fe0bb00100f24c71c32f0bad1fa7828d0db5ee39f3299"), looks := true }, kinds := [], alts := [], laidByText := true, laidKinds := [.data, .data, .data, .listed, .data], laidTests := true, laidLooks := .later }
def MachineRightUptoCardSaid : Prop := Claim7.holds Tryz.pinned (.plain (OpenSpec.upto machineRightSpec)) machineRightUptoCard

/-- THE SECOND FORM's CARD OF 'graftlaw11.MachineMore'. -/
def machineMoreUptoCard : Claim7 := { stood := { row := machineMoreUptoRow, standIns := [], harness := (true, "bc5e1e4bd5614c19816fe0bb00100f24c71c32f0bad1fa7828d0db5ee39f3299"), looks := true }, kinds := [], alts := [], laidByText := true, laidKinds := [.data, .data, .data, .listed, .data], laidTests := true, laidLooks := .later }
def MachineMoreUptoCardSaid : Prop := Claim7.holds Tryz.pinned (.plain (OpenSpec.upto machineMoreSpec)) machineMoreUptoCard

/-- THE SECOND FORM's CARD OF 'graftlaw11.MachineWell'. -/
def machineWellUptoCard : Claim7 := { stood := { row := machineWellUptoRow, standIns := [], harness := (true, "bc5e1e4bd5614c19816fe0bb00100f24c71c32f0bad1fa7828d0db5ee39f3299"), looks := true }, kinds := [], alts := [], laidByText := true, laidKinds := [.data, .data, .data, .listed, .data], laidTests := true, laidLooks := .later }
def MachineWellUptoCardSaid : Prop := Claim7.holds Tryz.pinned (.plain (OpenSpec.upto machineWellSpec)) machineWellUptoCard
end Rows
end Go.Proofs.YthikdpclifeonaaGreatDoor
