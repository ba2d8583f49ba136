/-
  DERIVED. GIVEN WITH THE SEED: THE CARDS: each row of YtdnajpnnjfncbaaDoorRows.lean that lists a variable, with what it lists TIED to the program's text (the seventh form; the later family's looks); each row that meets fmt, with fmt's text TOLD by the authors' own Lean function (tested against real Go, not proved from fmt's source: count such statements apart). THE CARD IS WHAT COUNTS. Prove the row's statement (the work); the ties are given (YtdnajpnnjfncbaaDoorTie.lean); close each card by the builder's one call (the guide's Derived/Test/ToyasCard.lean, 'card_holds'). Laid BY PROGRAM, IN A SANDBOX (cutbox-door.mjs). By AI agents, Wed Nov 11 2026. No macro, syntax, notation, axiom, sorry.
-/
import Derived.Test.YtdnajpnnjfncbaaDoorRows
import GoSem.ClaimSeven
namespace Go.Proofs.YtdnajpnnjfncbaaDoor
namespace Rows

/-- THE TIED CARD OF 'treadmilllaw16.ModelNobody'. -/
def modelNobodyCard : Claim7 := { stood := { row := modelNobodyRow, standIns := [], harness := (true, "5b94c4482ab079d18ada7c7ececa62ee7d5beaca0926966323ce7a8b0f8d1c75"), looks := true }, kinds := [], alts := [], laidByText := true, laidKinds := [.data], laidTests := true, laidLooks := .later }
def ModelNobodyCardSaid : Prop := Claim7.holds Tryd.pinned (.plain (OpenSpec.ofChange modelNobodySpec)) modelNobodyCard

/-- THE TIED CARD OF 'treadmilllaw16.ModelFaults'. -/
def modelFaultsCard : Claim7 := { stood := { row := modelFaultsRow, standIns := [], harness := (true, "5b94c4482ab079d18ada7c7ececa62ee7d5beaca0926966323ce7a8b0f8d1c75"), looks := true }, kinds := [], alts := [], laidByText := true, laidKinds := [.data], laidTests := true, laidLooks := .later }
def ModelFaultsCardSaid : Prop := Claim7.holds Tryd.pinned (.plain (OpenSpec.ofChange modelFaultsSpec)) modelFaultsCard

/-- THE TIED CARD OF 'treadmilllaw16.ModelCounts'. -/
def modelCountsCard : Claim7 := { stood := { row := modelCountsRow, standIns := [], harness := (true, "5b94c4482ab079d18ada7c7ececa62ee7d5beaca0926966323ce7a8b0f8d1c75"), looks := true }, kinds := [], alts := [], laidByText := true, laidKinds := [.data], laidTests := true, laidLooks := .later }
def ModelCountsCardSaid : Prop := Claim7.holds Tryd.pinned (.plain (OpenSpec.ofChange modelCountsSpec)) modelCountsCard

/-- THE TIED CARD OF 'treadmilllaw16.ModelLists'. -/
def modelListsCard : Claim7 := { stood := { row := modelListsRow, standIns := [], harness := (true, "5b94c4482ab079d18ada7c7ececa62ee7d5beaca0926966323ce7a8b0f8d1c75"), looks := true }, kinds := [], alts := [], laidByText := true, laidKinds := [.data], laidTests := true, laidLooks := .later }
def ModelListsCardSaid : Prop := Claim7.holds Tryd.pinned (.plain (OpenSpec.ofChange modelListsSpec)) modelListsCard

/-- THE TIED CARD OF 'treadmilllaw16.ModelWakes'. -/
def modelWakesCard : Claim7 := { stood := { row := modelWakesRow, standIns := [], harness := (true, "5b94c4482ab079d18ada7c7ececa62ee7d5beaca0926966323ce7a8b0f8d1c75"), looks := true }, kinds := [], alts := [], laidByText := true, laidKinds := [.data], laidTests := true, laidLooks := .later }
def ModelWakesCardSaid : Prop := Claim7.holds Tryd.pinned (.plain (OpenSpec.ofChange modelWakesSpec)) modelWakesCard

/-- THE TIED CARD OF 'treadmilllaw16.ModelSleeps'. -/
def modelSleepsCard : Claim7 := { stood := { row := modelSleepsRow, standIns := [], harness := (true, "5b94c4482ab079d18ada7c7ececa62ee7d5beaca0926966323ce7a8b0f8d1c75"), looks := true }, kinds := [], alts := [], laidByText := true, laidKinds := [.data], laidTests := true, laidLooks := .later }
def ModelSleepsCardSaid : Prop := Claim7.holds Tryd.pinned (.plain (OpenSpec.ofChange modelSleepsSpec)) modelSleepsCard

/-- THE TIED CARD OF 'treadmilllaw16.ModelGlobals'. -/
def modelGlobalsCard : Claim7 := { stood := { row := modelGlobalsRow, standIns := [], harness := (true, "5b94c4482ab079d18ada7c7ececa62ee7d5beaca0926966323ce7a8b0f8d1c75"), looks := true }, kinds := [], alts := [], laidByText := true, laidKinds := [.data], laidTests := true, laidLooks := .later }
def ModelGlobalsCardSaid : Prop := Claim7.holds Tryd.pinned (.plain (OpenSpec.ofChange modelGlobalsSpec)) modelGlobalsCard

/-- THE TIED CARD OF 'treadmilllaw16.ModelAlone'. -/
def modelAloneCard : Claim7 := { stood := { row := modelAloneRow, standIns := [], harness := (true, "5b94c4482ab079d18ada7c7ececa62ee7d5beaca0926966323ce7a8b0f8d1c75"), looks := true }, kinds := [], alts := [], laidByText := true, laidKinds := [.data], laidTests := true, laidLooks := .later }
def ModelAloneCardSaid : Prop := Claim7.holds Tryd.pinned (.plain (OpenSpec.ofChange modelAloneSpec)) modelAloneCard

/-- THE TIED CARD OF 'treadmilllaw16.ModelReach'. -/
def modelReachCard : Claim7 := { stood := { row := modelReachRow, standIns := [], harness := (true, "5b94c4482ab079d18ada7c7ececa62ee7d5beaca0926966323ce7a8b0f8d1c75"), looks := true }, kinds := [], alts := [], laidByText := true, laidKinds := [.data], laidTests := true, laidLooks := .later }
def ModelReachCardSaid : Prop := Claim7.holds Tryd.pinned (.plain (OpenSpec.ofChange modelReachSpec)) modelReachCard

/-- THE SECOND FORM's CARD OF 'treadmilllaw16.ModelNobody'. -/
def modelNobodyUptoCard : Claim7 := { stood := { row := modelNobodyUptoRow, standIns := [], harness := (true, "5b94c4482ab079d18ada7c7ececa62ee7d5beaca0926966323ce7a8b0f8d1c75"), looks := true }, kinds := [], alts := [], laidByText := true, laidKinds := [.data], laidTests := true, laidLooks := .later }
def ModelNobodyUptoCardSaid : Prop := Claim7.holds Tryd.pinned (.plain (OpenSpec.upto modelNobodySpec)) modelNobodyUptoCard

/-- THE SECOND FORM's CARD OF 'treadmilllaw16.ModelFaults'. -/
def modelFaultsUptoCard : Claim7 := { stood := { row := modelFaultsUptoRow, standIns := [], harness := (true, "5b94c4482ab079d18ada7c7ececa62ee7d5beaca0926966323ce7a8b0f8d1c75"), looks := true }, kinds := [], alts := [], laidByText := true, laidKinds := [.data], laidTests := true, laidLooks := .later }
def ModelFaultsUptoCardSaid : Prop := Claim7.holds Tryd.pinned (.plain (OpenSpec.upto modelFaultsSpec)) modelFaultsUptoCard

/-- THE SECOND FORM's CARD OF 'treadmilllaw16.ModelCounts'. -/
def modelCountsUptoCard : Claim7 := { stood := { row := modelCountsUptoRow, standIns := [], harness := (true, "5b94c4482ab079d18ada7c7ececa62ee7d5beaca0926966323ce7a8b0f8d1c75"), looks := true }, kinds := [], alts := [], laidByText := true, laidKinds := [.data], laidTests := true, laidLooks := .later }
def ModelCountsUptoCardSaid : Prop := Claim7.holds Tryd.pinned (.plain (OpenSpec.upto modelCountsSpec)) modelCountsUptoCard

/-- THE SECOND FORM's CARD OF 'treadmilllaw16.ModelLists'. -/
def modelListsUptoCard : Claim7 := { stood := { row := modelListsUptoRow, standIns := [], harness := (true, "5b94c4482ab079d18ada7c7ececa62ee7d5beaca0926966323ce7a8b0f8d1c75"), looks := true }, kinds := [], alts := [], laidByText := true, laidKinds := [.data], laidTests := true, laidLooks := .later }
def ModelListsUptoCardSaid : Prop := Claim7.holds Tryd.pinned (.plain (OpenSpec.upto modelListsSpec)) modelListsUptoCard

/-- THE SECOND FORM's CARD OF 'treadmilllaw16.ModelWakes'. -/
def modelWakesUptoCard : Claim7 := { stood := { row := modelWakesUptoRow, standIns := [], harness := (true, "5b94c4482ab079d18ada7c7ececa62ee7d5beaca0926966323ce7a8b0f8d1c75"), looks := true }, kinds := [], alts := [], laidByText := true, laidKinds := [.data], laidTests := true, laidLooks := .later }
def ModelWakesUptoCardSaid : Prop := Claim7.holds Tryd.pinned (.plain (OpenSpec.upto modelWakesSpec)) modelWakesUptoCard

/-- THE SECOND FORM's CARD OF 'treadmilllaw16.ModelSleeps'. -/
def modelSleepsUptoCard : Claim7 := { stood := { row := modelSleepsUptoRow, standIns := [], harness := (true, "5b94c4482ab079d18ada7c7ececa62ee7d5beaca0926966323ce7a8b0f8d1c75"), looks := true }, kinds := [], alts := [], laidByText := true, laidKinds := [.data], laidTests := true, laidLooks := .later }
def ModelSleepsUptoCardSaid : Prop := Claim7.holds Tryd.pinned (.plain (OpenSpec.upto modelSleepsSpec)) modelSleepsUptoCard

/-- THE SECOND FORM's CARD OF 'treadmilllaw16.ModelGlobals'. -/
def modelGlobalsUptoCard : Claim7 := { stood := { row := modelGlobalsUptoRow, standIns := [], harness := (true, "5b94c4482ab079d18ada7c7ececa62ee7d5beaca0926966323ce7a8b0f8d1c75"), looks := true }, kinds := [], alts := [], laidByText := true, laidKinds := [.data], laidTests := true, laidLooks := .later }
def ModelGlobalsUptoCardSaid : Prop := Claim7.holds Tryd.pinned (.plain (OpenSpec.upto modelGlobalsSpec)) modelGlobalsUptoCard

/-- THE SECOND FORM's CARD OF 'treadmilllaw16.ModelAlone'. -/
def modelAloneUptoCard : Claim7 := { stood := { row := modelAloneUptoRow, standIns := [], harness := (true, "5b94c4482ab079d18ada7c7ececa62ee7d5beaca0926966323ce7a8b0f8d1c75"), looks := true }, kinds := [], alts := [], laidByText := true, laidKinds := [.data], laidTests := true, laidLooks := .later }
def ModelAloneUptoCardSaid : Prop := Claim7.holds Tryd.pinned (.plain (OpenSpec.upto modelAloneSpec)) modelAloneUptoCard

/-- THE SECOND FORM's CARD OF 'treadmilllaw16.ModelReach'. -/
def modelReachUptoCard : Claim7 := { stood := { row := modelReachUptoRow, standIns := [], harness := (true, "5b94c4482ab079d18ada7c7ececa62ee7d5beaca0926966323ce7a8b0f8d1c75"), looks := true }, kinds := [], alts := [], laidByText := true, laidKinds := [.data], laidTests := true, laidLooks := .later }
def ModelReachUptoCardSaid : Prop := Claim7.holds Tryd.pinned (.plain (OpenSpec.upto modelReachSpec)) modelReachUptoCard
end Rows
end Go.Proofs.YtdnajpnnjfncbaaDoor
