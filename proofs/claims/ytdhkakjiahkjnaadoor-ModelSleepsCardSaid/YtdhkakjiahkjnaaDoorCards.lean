/-
  DERIVED. GIVEN WITH THE SEED: THE CARDS: each row of YtdhkakjiahkjnaaDoorRows.lean that lists a variable, with what it lists TIED to the program's text (the seventh form; the later family's looks); each row that meets fmt, with fmt's text TOLD by the authors' own Lean function (tested against real Go, not proved from fmt's source: count such statements apart). THE CARD IS WHAT COUNTS. Prove the row's statement (the work); the ties are given (YtdhkakjiahkjnaaDoorTie.lean); close each card by the builder's one call (the guide's Derived/Test/ToyasCard.lean, 'card_holds'). Laid BY PROGRAM, IN A SANDBOX (cutbox-door.mjs). By AI agents, Wed Nov 11 2026. No macro, syntax, notation, axiom, sorry.
-/
import Derived.Test.YtdhkakjiahkjnaaDoorRows
import GoSem.ClaimSeven
namespace Go.Proofs.YtdhkakjiahkjnaaDoor
namespace Rows

/-- THE TIED CARD OF 'treadmilllaw16.ModelSleeps'. -/
def modelSleepsCard : Claim7 := { stood := { row := modelSleepsRow, standIns := [], harness := (true, "3fa58c6f47dbd298f1d6d6d8527833268e86b2d99ff9ec612e5a91c38a746780"), looks := true }, kinds := [], alts := [], laidByText := true, laidKinds := [.data], laidTests := true, laidLooks := .later }
def ModelSleepsCardSaid : Prop := Claim7.holds Tryd.pinned (.plain (OpenSpec.ofChange modelSleepsSpec)) modelSleepsCard

/-- THE SECOND FORM's CARD OF 'treadmilllaw16.ModelSleeps'. -/
def modelSleepsUptoCard : Claim7 := { stood := { row := modelSleepsUptoRow, standIns := [], harness := (true, "3fa58c6f47dbd298f1d6d6d8527833268e86b2d99ff9ec612e5a91c38a746780"), looks := true }, kinds := [], alts := [], laidByText := true, laidKinds := [.data], laidTests := true, laidLooks := .later }
def ModelSleepsUptoCardSaid : Prop := Claim7.holds Tryd.pinned (.plain (OpenSpec.upto modelSleepsSpec)) modelSleepsUptoCard
end Rows
end Go.Proofs.YtdhkakjiahkjnaaDoor
