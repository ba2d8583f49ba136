/-
  DERIVED. GIVEN WITH THE SEED: THE CARDS: each row of YtinlbenifmcgaaaDoorRows.lean that lists a variable, with what it lists TIED to the program's text (the seventh form; the later family's looks); each row that meets fmt, with fmt's text TOLD by the authors' own Lean function (tested against real Go, not proved from fmt's source: count such statements apart). THE CARD IS WHAT COUNTS. Prove the row's statement (the work); the ties are given (YtinlbenifmcgaaaDoorTie.lean); close each card by the builder's one call (the guide's Derived/Test/ToyasCard.lean, 'card_holds'). Laid BY PROGRAM, IN A SANDBOX (cutbox-door.mjs). By AI agents, Wed Nov 11 2026. No macro, syntax, notation, axiom, sorry.
-/
import Derived.Test.YtinlbenifmcgaaaDoorRows
import GoSem.ClaimSeven
namespace Go.Proofs.YtinlbenifmcgaaaDoor
namespace Rows

/-- THE TIED CARD OF 'treadmilllaw31.RateNumbers'. -/
def rateNumbersCard : Claim7 := { stood := { row := rateNumbersRow, standIns := [], harness := (true, "ab58b3f4748865fa076b9d8eeb7121242849674d036c35c68672b52e6f5ae67d"), looks := true }, kinds := [], alts := [], laidByText := true, laidKinds := [.data, .data, .data], laidTests := true, laidLooks := .later }
def RateNumbersCardSaid : Prop := Claim7.holds Tryd.pinned (.plain (OpenSpec.ofChange rateNumbersSpec)) rateNumbersCard

/-- THE TIED CARD OF 'treadmilllaw31.RateMost'. -/
def rateMostCard : Claim7 := { stood := { row := rateMostRow, standIns := [], harness := (true, "ab58b3f4748865fa076b9d8eeb7121242849674d036c35c68672b52e6f5ae67d"), looks := true }, kinds := [], alts := [], laidByText := true, laidKinds := [.data, .data, .data], laidTests := true, laidLooks := .later }
def RateMostCardSaid : Prop := Claim7.holds Tryd.pinned (.plain (OpenSpec.ofChange rateMostSpec)) rateMostCard

/-- THE TIED CARD OF 'treadmilllaw31.RateOrder'. -/
def rateOrderCard : Claim7 := { stood := { row := rateOrderRow, standIns := [], harness := (true, "ab58b3f4748865fa076b9d8eeb7121242849674d036c35c68672b52e6f5ae67d"), looks := true }, kinds := [], alts := [], laidByText := true, laidKinds := [.data, .data, .data], laidTests := true, laidLooks := .later }
def RateOrderCardSaid : Prop := Claim7.holds Tryd.pinned (.plain (OpenSpec.ofChange rateOrderSpec)) rateOrderCard

/-- THE TIED CARD OF 'treadmilllaw31.RateOf'. -/
def rateOfCard : Claim7 := { stood := { row := rateOfRow, standIns := [], harness := (true, "ab58b3f4748865fa076b9d8eeb7121242849674d036c35c68672b52e6f5ae67d"), looks := true }, kinds := [], alts := [], laidByText := true, laidKinds := [.data, .data, .data], laidTests := true, laidLooks := .later }
def RateOfCardSaid : Prop := Claim7.holds Tryd.pinned (.plain (OpenSpec.ofChange rateOfSpec)) rateOfCard

/-- THE TIED CARD OF 'treadmilllaw31.RateLeast'. -/
def rateLeastCard : Claim7 := { stood := { row := rateLeastRow, standIns := [], harness := (true, "ab58b3f4748865fa076b9d8eeb7121242849674d036c35c68672b52e6f5ae67d"), looks := true }, kinds := [], alts := [], laidByText := true, laidKinds := [.data, .data, .data], laidTests := true, laidLooks := .later }
def RateLeastCardSaid : Prop := Claim7.holds Tryd.pinned (.plain (OpenSpec.ofChange rateLeastSpec)) rateLeastCard

/-- THE TIED CARD OF 'treadmilllaw31.RateKnown'. -/
def rateKnownCard : Claim7 := { stood := { row := rateKnownRow, standIns := [], harness := (true, "ab58b3f4748865fa076b9d8eeb7121242849674d036c35c68672b52e6f5ae67d"), looks := true }, kinds := [], alts := [], laidByText := true, laidKinds := [.data, .data, .data], laidTests := true, laidLooks := .later }
def RateKnownCardSaid : Prop := Claim7.holds Tryd.pinned (.plain (OpenSpec.ofChange rateKnownSpec)) rateKnownCard

/-- THE TIED CARD OF 'treadmilllaw31.RateMeans'. -/
def rateMeansCard : Claim7 := { stood := { row := rateMeansRow, standIns := [], harness := (true, "ab58b3f4748865fa076b9d8eeb7121242849674d036c35c68672b52e6f5ae67d"), looks := true }, kinds := [], alts := [], laidByText := true, laidKinds := [.data, .data, .data], laidTests := true, laidLooks := .later }
def RateMeansCardSaid : Prop := Claim7.holds Tryd.pinned (.plain (OpenSpec.ofChange rateMeansSpec)) rateMeansCard

/-- THE SECOND FORM's CARD OF 'treadmilllaw31.RateNumbers'. -/
def rateNumbersUptoCard : Claim7 := { stood := { row := rateNumbersUptoRow, standIns := [], harness := (true, "ab58b3f4748865fa076b9d8eeb7121242849674d036c35c68672b52e6f5ae67d"), looks := true }, kinds := [], alts := [], laidByText := true, laidKinds := [.data, .data, .data], laidTests := true, laidLooks := .later }
def RateNumbersUptoCardSaid : Prop := Claim7.holds Tryd.pinned (.plain (OpenSpec.upto rateNumbersSpec)) rateNumbersUptoCard

/-- THE SECOND FORM's CARD OF 'treadmilllaw31.RateMost'. -/
def rateMostUptoCard : Claim7 := { stood := { row := rateMostUptoRow, standIns := [], harness := (true, "ab58b3f4748865fa076b9d8eeb7121242849674d036c35c68672b52e6f5ae67d"), looks := true }, kinds := [], alts := [], laidByText := true, laidKinds := [.data, .data, .data], laidTests := true, laidLooks := .later }
def RateMostUptoCardSaid : Prop := Claim7.holds Tryd.pinned (.plain (OpenSpec.upto rateMostSpec)) rateMostUptoCard

/-- THE SECOND FORM's CARD OF 'treadmilllaw31.RateOrder'. -/
def rateOrderUptoCard : Claim7 := { stood := { row := rateOrderUptoRow, standIns := [], harness := (true, "ab58b3f4748865fa076b9d8eeb7121242849674d036c35c68672b52e6f5ae67d"), looks := true }, kinds := [], alts := [], laidByText := true, laidKinds := [.data, .data, .data], laidTests := true, laidLooks := .later }
def RateOrderUptoCardSaid : Prop := Claim7.holds Tryd.pinned (.plain (OpenSpec.upto rateOrderSpec)) rateOrderUptoCard

/-- THE SECOND FORM's CARD OF 'treadmilllaw31.RateOf'. -/
def rateOfUptoCard : Claim7 := { stood := { row := rateOfUptoRow, standIns := [], harness := (true, "ab58b3f4748865fa076b9d8eeb7121242849674d036c35c68672b52e6f5ae67d"), looks := true }, kinds := [], alts := [], laidByText := true, laidKinds := [.data, .data, .data], laidTests := true, laidLooks := .later }
def RateOfUptoCardSaid : Prop := Claim7.holds Tryd.pinned (.plain (OpenSpec.upto rateOfSpec)) rateOfUptoCard

/-- THE SECOND FORM's CARD OF 'treadmilllaw31.RateLeast'. -/
def rateLeastUptoCard : Claim7 := { stood := { row := rateLeastUptoRow, standIns := [], harness := (true, "ab58b3f4748865fa076b9d8eeb7121242849674d036c35c68672b52e6f5ae67d"), looks := true }, kinds := [], alts := [], laidByText := true, laidKinds := [.data, .data, .data], laidTests := true, laidLooks := .later }
def RateLeastUptoCardSaid : Prop := Claim7.holds Tryd.pinned (.plain (OpenSpec.upto rateLeastSpec)) rateLeastUptoCard

/-- THE SECOND FORM's CARD OF 'treadmilllaw31.RateKnown'. -/
def rateKnownUptoCard : Claim7 := { stood := { row := rateKnownUptoRow, standIns := [], harness := (true, "ab58b3f4748865fa076b9d8eeb7121242849674d036c35c68672b52e6f5ae67d"), looks := true }, kinds := [], alts := [], laidByText := true, laidKinds := [.data, .data, .data], laidTests := true, laidLooks := .later }
def RateKnownUptoCardSaid : Prop := Claim7.holds Tryd.pinned (.plain (OpenSpec.upto rateKnownSpec)) rateKnownUptoCard

/-- THE SECOND FORM's CARD OF 'treadmilllaw31.RateMeans'. -/
def rateMeansUptoCard : Claim7 := { stood := { row := rateMeansUptoRow, standIns := [], harness := (true, "ab58b3f4748865fa076b9d8eeb7121242849674d036c35c68672b52e6f5ae67d"), looks := true }, kinds := [], alts := [], laidByText := true, laidKinds := [.data, .data, .data], laidTests := true, laidLooks := .later }
def RateMeansUptoCardSaid : Prop := Claim7.holds Tryd.pinned (.plain (OpenSpec.upto rateMeansSpec)) rateMeansUptoCard
end Rows
end Go.Proofs.YtinlbenifmcgaaaDoor
