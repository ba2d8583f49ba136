/-
  DERIVED. GIVEN WITH THE SEED: THE CARDS: each row of YtbheabjemaaeoaaDoorRows.lean that lists a variable, with what it lists TIED to the program's text (the seventh form; the later family's looks); each row that meets fmt, with fmt's text TOLD by the authors' own Lean function (tested against real Go, not proved from fmt's source: count such statements apart). THE CARD IS WHAT COUNTS. Prove the row's statement (the work); the ties are given (YtbheabjemaaeoaaDoorTie.lean); close each card by the builder's one call (the guide's Derived/Test/ToyasCard.lean, 'card_holds'). Laid BY PROGRAM, IN A SANDBOX (cutbox-door.mjs). By AI agents, Wed Nov 11 2026. No macro, syntax, notation, axiom, sorry.
-/
import Derived.Test.YtbheabjemaaeoaaDoorRows
import GoSem.ClaimSeven
namespace Go.Proofs.YtbheabjemaaeoaaDoor
namespace Rows

/-- THE TIED CARD OF 'treadmilllaw16.ModelNobody'. -/
def modelNobodyCard : Claim7 := { stood := { row := modelNobodyRow, standIns := [], harness := (true, "cc0361eb201408773f13c45fa9f547e1fb0ea413df4f5c304e8a2f1f88d26341"), looks := true }, kinds := [], alts := [], laidByText := true, laidKinds := [.data], laidTests := true, laidLooks := .later }
def ModelNobodyCardSaid : Prop := Claim7.holds Tryd.pinned (.plain (OpenSpec.ofChange modelNobodySpec)) modelNobodyCard

/-- THE TIED CARD OF 'treadmilllaw16.ModelFaults'. -/
def modelFaultsCard : Claim7 := { stood := { row := modelFaultsRow, standIns := [], harness := (true, "cc0361eb201408773f13c45fa9f547e1fb0ea413df4f5c304e8a2f1f88d26341"), looks := true }, kinds := [], alts := [], laidByText := true, laidKinds := [.data], laidTests := true, laidLooks := .later }
def ModelFaultsCardSaid : Prop := Claim7.holds Tryd.pinned (.plain (OpenSpec.ofChange modelFaultsSpec)) modelFaultsCard

/-- THE TIED CARD OF 'treadmilllaw16.ModelCounts'. -/
def modelCountsCard : Claim7 := { stood := { row := modelCountsRow, standIns := [], harness := (true, "cc0361eb201408773f13c45fa9f547e1fb0ea413df4f5c304e8a2f1f88d26341"), looks := true }, kinds := [], alts := [], laidByText := true, laidKinds := [.data], laidTests := true, laidLooks := .later }
def ModelCountsCardSaid : Prop := Claim7.holds Tryd.pinned (.plain (OpenSpec.ofChange modelCountsSpec)) modelCountsCard

/-- THE TIED CARD OF 'treadmilllaw16.ModelLists'. -/
def modelListsCard : Claim7 := { stood := { row := modelListsRow, standIns := [], harness := (true, "cc0361eb201408773f13c45fa9f547e1fb0ea413df4f5c304e8a2f1f88d26341"), looks := true }, kinds := [], alts := [], laidByText := true, laidKinds := [.data], laidTests := true, laidLooks := .later }
def ModelListsCardSaid : Prop := Claim7.holds Tryd.pinned (.plain (OpenSpec.ofChange modelListsSpec)) modelListsCard

/-- THE TIED CARD OF 'treadmilllaw16.ModelWakes'. -/
def modelWakesCard : Claim7 := { stood := { row := modelWakesRow, standIns := [], harness := (true, "cc0361eb201408773f13c45fa9f547e1fb0ea413df4f5c304e8a2f1f88d26341"), looks := true }, kinds := [], alts := [], laidByText := true, laidKinds := [.data], laidTests := true, laidLooks := .later }
def ModelWakesCardSaid : Prop := Claim7.holds Tryd.pinned (.plain (OpenSpec.ofChange modelWakesSpec)) modelWakesCard

/-- THE TIED CARD OF 'treadmilllaw16.ModelSleeps'. -/
def modelSleepsCard : Claim7 := { stood := { row := modelSleepsRow, standIns := [], harness := (true, "cc0361eb201408773f13c45fa9f547e1fb0ea413df4f5c304e8a2f1f88d26341"), looks := true }, kinds := [], alts := [], laidByText := true, laidKinds := [.data], laidTests := true, laidLooks := .later }
def ModelSleepsCardSaid : Prop := Claim7.holds Tryd.pinned (.plain (OpenSpec.ofChange modelSleepsSpec)) modelSleepsCard

/-- THE TIED CARD OF 'treadmilllaw16.ModelGlobals'. -/
def modelGlobalsCard : Claim7 := { stood := { row := modelGlobalsRow, standIns := [], harness := (true, "cc0361eb201408773f13c45fa9f547e1fb0ea413df4f5c304e8a2f1f88d26341"), looks := true }, kinds := [], alts := [], laidByText := true, laidKinds := [.data], laidTests := true, laidLooks := .later }
def ModelGlobalsCardSaid : Prop := Claim7.holds Tryd.pinned (.plain (OpenSpec.ofChange modelGlobalsSpec)) modelGlobalsCard

/-- THE TIED CARD OF 'treadmilllaw16.ModelAlone'. -/
def modelAloneCard : Claim7 := { stood := { row := modelAloneRow, standIns := [], harness := (true, "cc0361eb201408773f13c45fa9f547e1fb0ea413df4f5c304e8a2f1f88d26341"), looks := true }, kinds := [], alts := [], laidByText := true, laidKinds := [.data], laidTests := true, laidLooks := .later }
def ModelAloneCardSaid : Prop := Claim7.holds Tryd.pinned (.plain (OpenSpec.ofChange modelAloneSpec)) modelAloneCard

/-- THE TIED CARD OF 'treadmilllaw16.ModelReach'. -/
def modelReachCard : Claim7 := { stood := { row := modelReachRow, standIns := [], harness := (true, "cc0361eb201408773f13c45fa9f547e1fb0ea413df4f5c304e8a2f1f88d26341"), looks := true }, kinds := [], alts := [], laidByText := true, laidKinds := [.data], laidTests := true, laidLooks := .later }
def ModelReachCardSaid : Prop := Claim7.holds Tryd.pinned (.plain (OpenSpec.ofChange modelReachSpec)) modelReachCard

/-- THE TIED CARD OF 'treadmilllaw15.CodeBounds'. -/
def codeBoundsCard : Claim7 := { stood := { row := codeBoundsRow, standIns := [], harness := (true, "cc0361eb201408773f13c45fa9f547e1fb0ea413df4f5c304e8a2f1f88d26341"), looks := true }, kinds := [], alts := [], laidByText := true, laidKinds := [.data], laidTests := true, laidLooks := .later }
def CodeBoundsCardSaid : Prop := Claim7.holds Tryd.pinned (.plain (OpenSpec.ofChange codeBoundsSpec)) codeBoundsCard

/-- THE TIED CARD OF 'treadmilllaw15.CodeMays'. -/
def codeMaysCard : Claim7 := { stood := { row := codeMaysRow, standIns := [], harness := (true, "cc0361eb201408773f13c45fa9f547e1fb0ea413df4f5c304e8a2f1f88d26341"), looks := true }, kinds := [], alts := [], laidByText := true, laidKinds := [.data], laidTests := true, laidLooks := .later }
def CodeMaysCardSaid : Prop := Claim7.holds Tryd.pinned (.plain (OpenSpec.ofChange codeMaysSpec)) codeMaysCard

/-- THE TIED CARD OF 'treadmilllaw15.CodeBack'. -/
def codeBackCard : Claim7 := { stood := { row := codeBackRow, standIns := [], harness := (true, "cc0361eb201408773f13c45fa9f547e1fb0ea413df4f5c304e8a2f1f88d26341"), looks := true }, kinds := [], alts := [], laidByText := true, laidKinds := [.data], laidTests := true, laidLooks := .later }
def CodeBackCardSaid : Prop := Claim7.holds Tryd.pinned (.plain (OpenSpec.ofChange codeBackSpec)) codeBackCard

/-- THE SECOND FORM's CARD OF 'treadmilllaw16.ModelNobody'. -/
def modelNobodyUptoCard : Claim7 := { stood := { row := modelNobodyUptoRow, standIns := [], harness := (true, "cc0361eb201408773f13c45fa9f547e1fb0ea413df4f5c304e8a2f1f88d26341"), looks := true }, kinds := [], alts := [], laidByText := true, laidKinds := [.data], laidTests := true, laidLooks := .later }
def ModelNobodyUptoCardSaid : Prop := Claim7.holds Tryd.pinned (.plain (OpenSpec.upto modelNobodySpec)) modelNobodyUptoCard

/-- THE SECOND FORM's CARD OF 'treadmilllaw16.ModelFaults'. -/
def modelFaultsUptoCard : Claim7 := { stood := { row := modelFaultsUptoRow, standIns := [], harness := (true, "cc0361eb201408773f13c45fa9f547e1fb0ea413df4f5c304e8a2f1f88d26341"), looks := true }, kinds := [], alts := [], laidByText := true, laidKinds := [.data], laidTests := true, laidLooks := .later }
def ModelFaultsUptoCardSaid : Prop := Claim7.holds Tryd.pinned (.plain (OpenSpec.upto modelFaultsSpec)) modelFaultsUptoCard

/-- THE SECOND FORM's CARD OF 'treadmilllaw16.ModelCounts'. -/
def modelCountsUptoCard : Claim7 := { stood := { row := modelCountsUptoRow, standIns := [], harness := (true, "cc0361eb201408773f13c45fa9f547e1fb0ea413df4f5c304e8a2f1f88d26341"), looks := true }, kinds := [], alts := [], laidByText := true, laidKinds := [.data], laidTests := true, laidLooks := .later }
def ModelCountsUptoCardSaid : Prop := Claim7.holds Tryd.pinned (.plain (OpenSpec.upto modelCountsSpec)) modelCountsUptoCard

/-- THE SECOND FORM's CARD OF 'treadmilllaw16.ModelLists'. -/
def modelListsUptoCard : Claim7 := { stood := { row := modelListsUptoRow, standIns := [], harness := (true, "cc0361eb201408773f13c45fa9f547e1fb0ea413df4f5c304e8a2f1f88d26341"), looks := true }, kinds := [], alts := [], laidByText := true, laidKinds := [.data], laidTests := true, laidLooks := .later }
def ModelListsUptoCardSaid : Prop := Claim7.holds Tryd.pinned (.plain (OpenSpec.upto modelListsSpec)) modelListsUptoCard

/-- THE SECOND FORM's CARD OF 'treadmilllaw16.ModelWakes'. -/
def modelWakesUptoCard : Claim7 := { stood := { row := modelWakesUptoRow, standIns := [], harness := (true, "cc0361eb201408773f13c45fa9f547e1fb0ea413df4f5c304e8a2f1f88d26341"), looks := true }, kinds := [], alts := [], laidByText := true, laidKinds := [.data], laidTests := true, laidLooks := .later }
def ModelWakesUptoCardSaid : Prop := Claim7.holds Tryd.pinned (.plain (OpenSpec.upto modelWakesSpec)) modelWakesUptoCard

/-- THE SECOND FORM's CARD OF 'treadmilllaw16.ModelSleeps'. -/
def modelSleepsUptoCard : Claim7 := { stood := { row := modelSleepsUptoRow, standIns := [], harness := (true, "cc0361eb201408773f13c45fa9f547e1fb0ea413df4f5c304e8a2f1f88d26341"), looks := true }, kinds := [], alts := [], laidByText := true, laidKinds := [.data], laidTests := true, laidLooks := .later }
def ModelSleepsUptoCardSaid : Prop := Claim7.holds Tryd.pinned (.plain (OpenSpec.upto modelSleepsSpec)) modelSleepsUptoCard

/-- THE SECOND FORM's CARD OF 'treadmilllaw16.ModelGlobals'. -/
def modelGlobalsUptoCard : Claim7 := { stood := { row := modelGlobalsUptoRow, standIns := [], harness := (true, "cc0361eb201408773f13c45fa9f547e1fb0ea413df4f5c304e8a2f1f88d26341"), looks := true }, kinds := [], alts := [], laidByText := true, laidKinds := [.data], laidTests := true, laidLooks := .later }
def ModelGlobalsUptoCardSaid : Prop := Claim7.holds Tryd.pinned (.plain (OpenSpec.upto modelGlobalsSpec)) modelGlobalsUptoCard

/-- THE SECOND FORM's CARD OF 'treadmilllaw16.ModelAlone'. -/
def modelAloneUptoCard : Claim7 := { stood := { row := modelAloneUptoRow, standIns := [], harness := (true, "cc0361eb201408773f13c45fa9f547e1fb0ea413df4f5c304e8a2f1f88d26341"), looks := true }, kinds := [], alts := [], laidByText := true, laidKinds := [.data], laidTests := true, laidLooks := .later }
def ModelAloneUptoCardSaid : Prop := Claim7.holds Tryd.pinned (.plain (OpenSpec.upto modelAloneSpec)) modelAloneUptoCard

/-- THE SECOND FORM's CARD OF 'treadmilllaw16.ModelReach'. -/
def modelReachUptoCard : Claim7 := { stood := { row := modelReachUptoRow, standIns := [], harness := (true, "cc0361eb201408773f13c45fa9f547e1fb0ea413df4f5c304e8a2f1f88d26341"), looks := true }, kinds := [], alts := [], laidByText := true, laidKinds := [.data], laidTests := true, laidLooks := .later }
def ModelReachUptoCardSaid : Prop := Claim7.holds Tryd.pinned (.plain (OpenSpec.upto modelReachSpec)) modelReachUptoCard

/-- THE SECOND FORM's CARD OF 'treadmilllaw15.CodeBounds'. -/
def codeBoundsUptoCard : Claim7 := { stood := { row := codeBoundsUptoRow, standIns := [], harness := (true, "cc0361eb201408773f13c45fa9f547e1fb0ea413df4f5c304e8a2f1f88d26341"), looks := true }, kinds := [], alts := [], laidByText := true, laidKinds := [.data], laidTests := true, laidLooks := .later }
def CodeBoundsUptoCardSaid : Prop := Claim7.holds Tryd.pinned (.plain (OpenSpec.upto codeBoundsSpec)) codeBoundsUptoCard

/-- THE SECOND FORM's CARD OF 'treadmilllaw15.CodeMays'. -/
def codeMaysUptoCard : Claim7 := { stood := { row := codeMaysUptoRow, standIns := [], harness := (true, "cc0361eb201408773f13c45fa9f547e1fb0ea413df4f5c304e8a2f1f88d26341"), looks := true }, kinds := [], alts := [], laidByText := true, laidKinds := [.data], laidTests := true, laidLooks := .later }
def CodeMaysUptoCardSaid : Prop := Claim7.holds Tryd.pinned (.plain (OpenSpec.upto codeMaysSpec)) codeMaysUptoCard

/-- THE SECOND FORM's CARD OF 'treadmilllaw15.CodeBack'. -/
def codeBackUptoCard : Claim7 := { stood := { row := codeBackUptoRow, standIns := [], harness := (true, "cc0361eb201408773f13c45fa9f547e1fb0ea413df4f5c304e8a2f1f88d26341"), looks := true }, kinds := [], alts := [], laidByText := true, laidKinds := [.data], laidTests := true, laidLooks := .later }
def CodeBackUptoCardSaid : Prop := Claim7.holds Tryd.pinned (.plain (OpenSpec.upto codeBackSpec)) codeBackUptoCard
end Rows
end Go.Proofs.YtbheabjemaaeoaaDoor
