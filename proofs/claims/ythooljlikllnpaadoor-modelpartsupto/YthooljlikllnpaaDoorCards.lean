/-
  DERIVED. GIVEN WITH THE SEED: THE CARDS: each row of YthooljlikllnpaaDoorRows.lean that lists a variable, with what it lists TIED to the program's text (the seventh form; the later family's looks); each row that meets fmt, with fmt's text TOLD by the authors' own Lean function (tested against real Go, not proved from fmt's source: count such statements apart). THE CARD IS WHAT COUNTS. Prove the row's statement (the work); the ties are given (YthooljlikllnpaaDoorTie.lean); close each card by the builder's one call (the guide's Derived/Test/ToyasCard.lean, 'card_holds'). Laid BY PROGRAM, IN A SANDBOX (cutbox-door.mjs). By AI agents, Wed Nov 11 2026. No macro, syntax, notation, axiom, sorry.
-/
import Derived.Test.YthooljlikllnpaaDoorRows
import GoSem.ClaimSeven
namespace Go.Proofs.YthooljlikllnpaaDoor
namespace Rows

/-- THE TIED CARD OF 'graftlaw7.ModelTells'. -/
def modelTellsCard : Claim7 := { stood := { row := modelTellsRow, standIns := [], harness := (true, "59eb52e9ba3258e0e94d84eb06f02b0383228bc8cbc30e3149d26bda8c870baa"), looks := true }, kinds := [], alts := [], laidByText := true, laidKinds := [.data, .data, .data], laidTests := true, laidLooks := .later }
def ModelTellsCardSaid : Prop := Claim7.holds Tryd.pinned (.plain (OpenSpec.ofChange modelTellsSpec)) modelTellsCard

/-- THE TIED CARD OF 'graftlaw7.ModelMore'. -/
def modelMoreCard : Claim7 := { stood := { row := modelMoreRow, standIns := [], harness := (true, "59eb52e9ba3258e0e94d84eb06f02b0383228bc8cbc30e3149d26bda8c870baa"), looks := true }, kinds := [], alts := [], laidByText := true, laidKinds := [.data, .data, .data], laidTests := true, laidLooks := .later }
def ModelMoreCardSaid : Prop := Claim7.holds Tryd.pinned (.plain (OpenSpec.ofChange modelMoreSpec)) modelMoreCard

/-- THE TIED CARD OF 'graftlaw7.ModelParts'. -/
def modelPartsCard : Claim7 := { stood := { row := modelPartsRow, standIns := [], harness := (true, "59eb52e9ba3258e0e94d84eb06f02b0383228bc8cbc30e3149d26bda8c870baa"), looks := true }, kinds := [], alts := [], laidByText := true, laidKinds := [.data, .data, .data], laidTests := true, laidLooks := .later }
def ModelPartsCardSaid : Prop := Claim7.holds Tryd.pinned (.plain (OpenSpec.ofChange modelPartsSpec)) modelPartsCard

/-- THE TIED CARD OF 'graftlaw7.ModelLeft'. -/
def modelLeftCard : Claim7 := { stood := { row := modelLeftRow, standIns := [], harness := (true, "59eb52e9ba3258e0e94d84eb06f02b0383228bc8cbc30e3149d26bda8c870baa"), looks := true }, kinds := [], alts := [], laidByText := true, laidKinds := [.data, .data, .data], laidTests := true, laidLooks := .later }
def ModelLeftCardSaid : Prop := Claim7.holds Tryd.pinned (.plain (OpenSpec.ofChange modelLeftSpec)) modelLeftCard

/-- THE TIED CARD OF 'graftlaw7.ModelSums'. -/
def modelSumsCard : Claim7 := { stood := { row := modelSumsRow, standIns := [], harness := (true, "59eb52e9ba3258e0e94d84eb06f02b0383228bc8cbc30e3149d26bda8c870baa"), looks := true }, kinds := [], alts := [], laidByText := true, laidKinds := [.data, .data, .data], laidTests := true, laidLooks := .later }
def ModelSumsCardSaid : Prop := Claim7.holds Tryd.pinned (.plain (OpenSpec.ofChange modelSumsSpec)) modelSumsCard

/-- THE SECOND FORM's CARD OF 'graftlaw7.ModelTells'. -/
def modelTellsUptoCard : Claim7 := { stood := { row := modelTellsUptoRow, standIns := [], harness := (true, "59eb52e9ba3258e0e94d84eb06f02b0383228bc8cbc30e3149d26bda8c870baa"), looks := true }, kinds := [], alts := [], laidByText := true, laidKinds := [.data, .data, .data], laidTests := true, laidLooks := .later }
def ModelTellsUptoCardSaid : Prop := Claim7.holds Tryd.pinned (.plain (OpenSpec.upto modelTellsSpec)) modelTellsUptoCard

/-- THE SECOND FORM's CARD OF 'graftlaw7.ModelMore'. -/
def modelMoreUptoCard : Claim7 := { stood := { row := modelMoreUptoRow, standIns := [], harness := (true, "59eb52e9ba3258e0e94d84eb06f02b0383228bc8cbc30e3149d26bda8c870baa"), looks := true }, kinds := [], alts := [], laidByText := true, laidKinds := [.data, .data, .data], laidTests := true, laidLooks := .later }
def ModelMoreUptoCardSaid : Prop := Claim7.holds Tryd.pinned (.plain (OpenSpec.upto modelMoreSpec)) modelMoreUptoCard

/-- THE SECOND FORM's CARD OF 'graftlaw7.ModelParts'. -/
def modelPartsUptoCard : Claim7 := { stood := { row := modelPartsUptoRow, standIns := [], harness := (true, "59eb52e9ba3258e0e94d84eb06f02b0383228bc8cbc30e3149d26bda8c870baa"), looks := true }, kinds := [], alts := [], laidByText := true, laidKinds := [.data, .data, .data], laidTests := true, laidLooks := .later }
def ModelPartsUptoCardSaid : Prop := Claim7.holds Tryd.pinned (.plain (OpenSpec.upto modelPartsSpec)) modelPartsUptoCard

/-- THE SECOND FORM's CARD OF 'graftlaw7.ModelLeft'. -/
def modelLeftUptoCard : Claim7 := { stood := { row := modelLeftUptoRow, standIns := [], harness := (true, "59eb52e9ba3258e0e94d84eb06f02b0383228bc8cbc30e3149d26bda8c870baa"), looks := true }, kinds := [], alts := [], laidByText := true, laidKinds := [.data, .data, .data], laidTests := true, laidLooks := .later }
def ModelLeftUptoCardSaid : Prop := Claim7.holds Tryd.pinned (.plain (OpenSpec.upto modelLeftSpec)) modelLeftUptoCard

/-- THE SECOND FORM's CARD OF 'graftlaw7.ModelSums'. -/
def modelSumsUptoCard : Claim7 := { stood := { row := modelSumsUptoRow, standIns := [], harness := (true, "59eb52e9ba3258e0e94d84eb06f02b0383228bc8cbc30e3149d26bda8c870baa"), looks := true }, kinds := [], alts := [], laidByText := true, laidKinds := [.data, .data, .data], laidTests := true, laidLooks := .later }
def ModelSumsUptoCardSaid : Prop := Claim7.holds Tryd.pinned (.plain (OpenSpec.upto modelSumsSpec)) modelSumsUptoCard
end Rows
end Go.Proofs.YthooljlikllnpaaDoor
