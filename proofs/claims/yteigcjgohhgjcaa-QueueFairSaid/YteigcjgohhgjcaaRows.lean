/-
  No cell of these rows narrows 'for every input' (looked for: loops, veiled, ifaces, maps, wideKeys, modest, calm, conditions, laid).
  DERIVED. THE GIVEN ROWS OF THIS SEAT. 12 by the template 'for every input the law returns true; each argument reads behind the call as it read before'; 0 by the template 'total and deterministic' (their statements: YteigcjgohhgjcaaTotals.lean).
  GIVEN WITH THE SEED: the statements are not yours to turn. If you find one false, say at which input.
  Laid BY PROGRAM, IN A SANDBOX (cutbox-rows.mjs): the forced cells as the released guide's own fill.sh prints them over the translation 7d76afcf82775c9b… (all of the seat's roots in one cut). By AI agents, Wed Nov 11 2026. No macro, syntax, notation, axiom, sorry.
-/
import Derived.Test.YteigcjgohhgjcaaChecked
import GoSem.Claim
import GoSem.ClaimJoined
import GoSem.ClaimMapViews
import Derived.JoinedTies
import Derived.KernelRfl
namespace Go.Proofs.Yteigcjgohhgjcaa
/- THE CELL 'sum', in the pinned program and in every row, IS THE sha256 OF THE DUMP (.gsa) THAT YteigcjgohhgjcaaProg.lean LOADS. Nothing in Lean hashes anything: it is a label: what it is worth is what the hold of that sum in a sandbox is worth. -/
noncomputable def Try.pinned : Pinned := { name := "yteigcjgohhgjcaa", sum := "7d76afcf82775c9bde96bafd688da465fed09da91beeca6f34d50fca76e586d1", checked := Try.checked }
namespace Rows
def none {H : Type} : Left H := { results := [], args := [] }

/-- 'treadmilllaw10.RingPlays': WHATEVER THE INPUT: true; the input reads as it did. -/
def ringPlaysSpec : ChangeSpec := { name := "ringPlays", fn := fun _ => fun
  | [d] => { results := [.lit (.bool true)], args := [d] }
  | _ => none }
def ringPlaysRow : OpenClaim := { program := "yteigcjgohhgjcaa", sum := "7d76afcf82775c9bde96bafd688da465fed09da91beeca6f34d50fca76e586d1", func := "treadmill/treadmilllaw10.RingPlays", spec := "ringPlays", apart := false }
def RingPlaysSaid : Prop := ringPlaysRow.holds Try.pinned (OpenSpec.ofChange ringPlaysSpec)

/-- ITS FALSE NEIGHBOUR: 'it returns false'. Refute it at one input. -/
def ringPlaysWrong : ChangeSpec := { name := "ringPlays", fn := fun _ => fun
  | [d] => { results := [.lit (.bool false)], args := [d] }
  | _ => none }
def RingPlaysWrongFalsely : Prop := ringPlaysRow.holds Try.pinned (OpenSpec.ofChange ringPlaysWrong)

/-- 'treadmilllaw10.RingKeeps': WHATEVER THE INPUT: true; the input reads as it did. -/
def ringKeepsSpec : ChangeSpec := { name := "ringKeeps", fn := fun _ => fun
  | [d1, d2] => { results := [.lit (.bool true)], args := [d1, d2] }
  | _ => none }
def ringKeepsRow : OpenClaim := { program := "yteigcjgohhgjcaa", sum := "7d76afcf82775c9bde96bafd688da465fed09da91beeca6f34d50fca76e586d1", func := "treadmill/treadmilllaw10.RingKeeps", spec := "ringKeeps", apart := false }
def RingKeepsSaid : Prop := ringKeepsRow.holds Try.pinned (OpenSpec.ofChange ringKeepsSpec)

/-- ITS FALSE NEIGHBOUR: 'it returns false'. Refute it at one input. -/
def ringKeepsWrong : ChangeSpec := { name := "ringKeeps", fn := fun _ => fun
  | [d1, d2] => { results := [.lit (.bool false)], args := [d1, d2] }
  | _ => none }
def RingKeepsWrongFalsely : Prop := ringKeepsRow.holds Try.pinned (OpenSpec.ofChange ringKeepsWrong)

/-- 'treadmilllaw10.RingSteals': WHATEVER THE INPUT: true; the input reads as it did. -/
def ringStealsSpec : ChangeSpec := { name := "ringSteals", fn := fun _ => fun
  | [d1, d2, d3] => { results := [.lit (.bool true)], args := [d1, d2, d3] }
  | _ => none }
def ringStealsRow : OpenClaim := { program := "yteigcjgohhgjcaa", sum := "7d76afcf82775c9bde96bafd688da465fed09da91beeca6f34d50fca76e586d1", func := "treadmill/treadmilllaw10.RingSteals", spec := "ringSteals", apart := false }
def RingStealsSaid : Prop := ringStealsRow.holds Try.pinned (OpenSpec.ofChange ringStealsSpec)

/-- ITS FALSE NEIGHBOUR: 'it returns false'. Refute it at one input. -/
def ringStealsWrong : ChangeSpec := { name := "ringSteals", fn := fun _ => fun
  | [d1, d2, d3] => { results := [.lit (.bool false)], args := [d1, d2, d3] }
  | _ => none }
def RingStealsWrongFalsely : Prop := ringStealsRow.holds Try.pinned (OpenSpec.ofChange ringStealsWrong)

/-- 'treadmilllaw10.RingNexts': WHATEVER THE INPUT: true; the input reads as it did. -/
def ringNextsSpec : ChangeSpec := { name := "ringNexts", fn := fun _ => fun
  | [d1, d2] => { results := [.lit (.bool true)], args := [d1, d2] }
  | _ => none }
def ringNextsRow : OpenClaim := { program := "yteigcjgohhgjcaa", sum := "7d76afcf82775c9bde96bafd688da465fed09da91beeca6f34d50fca76e586d1", func := "treadmill/treadmilllaw10.RingNexts", spec := "ringNexts", apart := false }
def RingNextsSaid : Prop := ringNextsRow.holds Try.pinned (OpenSpec.ofChange ringNextsSpec)

/-- ITS FALSE NEIGHBOUR: 'it returns false'. Refute it at one input. -/
def ringNextsWrong : ChangeSpec := { name := "ringNexts", fn := fun _ => fun
  | [d1, d2] => { results := [.lit (.bool false)], args := [d1, d2] }
  | _ => none }
def RingNextsWrongFalsely : Prop := ringNextsRow.holds Try.pinned (OpenSpec.ofChange ringNextsWrong)

/-- 'treadmilllaw10.RingDels': WHATEVER THE INPUT: true; the input reads as it did. -/
def ringDelsSpec : ChangeSpec := { name := "ringDels", fn := fun _ => fun
  | [d1, d2] => { results := [.lit (.bool true)], args := [d1, d2] }
  | _ => none }
def ringDelsRow : OpenClaim := { program := "yteigcjgohhgjcaa", sum := "7d76afcf82775c9bde96bafd688da465fed09da91beeca6f34d50fca76e586d1", func := "treadmill/treadmilllaw10.RingDels", spec := "ringDels", apart := false }
def RingDelsSaid : Prop := ringDelsRow.holds Try.pinned (OpenSpec.ofChange ringDelsSpec)

/-- ITS FALSE NEIGHBOUR: 'it returns false'. Refute it at one input. -/
def ringDelsWrong : ChangeSpec := { name := "ringDels", fn := fun _ => fun
  | [d1, d2] => { results := [.lit (.bool false)], args := [d1, d2] }
  | _ => none }
def RingDelsWrongFalsely : Prop := ringDelsRow.holds Try.pinned (OpenSpec.ofChange ringDelsWrong)

/-- 'treadmilllaw11.QueuePlays': WHATEVER THE INPUT: true; the input reads as it did. -/
def queuePlaysSpec : ChangeSpec := { name := "queuePlays", fn := fun _ => fun
  | [d] => { results := [.lit (.bool true)], args := [d] }
  | _ => none }
def queuePlaysRow : OpenClaim := { program := "yteigcjgohhgjcaa", sum := "7d76afcf82775c9bde96bafd688da465fed09da91beeca6f34d50fca76e586d1", func := "treadmill/treadmilllaw11.QueuePlays", spec := "queuePlays", apart := false }
def QueuePlaysSaid : Prop := queuePlaysRow.holds Try.pinned (OpenSpec.ofChange queuePlaysSpec)

/-- ITS FALSE NEIGHBOUR: 'it returns false'. Refute it at one input. -/
def queuePlaysWrong : ChangeSpec := { name := "queuePlays", fn := fun _ => fun
  | [d] => { results := [.lit (.bool false)], args := [d] }
  | _ => none }
def QueuePlaysWrongFalsely : Prop := queuePlaysRow.holds Try.pinned (OpenSpec.ofChange queuePlaysWrong)

/-- 'treadmilllaw11.QueueFair': WHATEVER THE INPUT: true; the input reads as it did. -/
def queueFairSpec : ChangeSpec := { name := "queueFair", fn := fun _ => fun
  | [d1, d2, d3] => { results := [.lit (.bool true)], args := [d1, d2, d3] }
  | _ => none }
def queueFairRow : OpenClaim := { program := "yteigcjgohhgjcaa", sum := "7d76afcf82775c9bde96bafd688da465fed09da91beeca6f34d50fca76e586d1", func := "treadmill/treadmilllaw11.QueueFair", spec := "queueFair", apart := false }
def QueueFairSaid : Prop := queueFairRow.holds Try.pinned (OpenSpec.ofChange queueFairSpec)

/-- ITS FALSE NEIGHBOUR: 'it returns false'. Refute it at one input. -/
def queueFairWrong : ChangeSpec := { name := "queueFair", fn := fun _ => fun
  | [d1, d2, d3] => { results := [.lit (.bool false)], args := [d1, d2, d3] }
  | _ => none }
def QueueFairWrongFalsely : Prop := queueFairRow.holds Try.pinned (OpenSpec.ofChange queueFairWrong)

/-- 'treadmilllaw11.QueueDels': WHATEVER THE INPUT: true; the input reads as it did. -/
def queueDelsSpec : ChangeSpec := { name := "queueDels", fn := fun _ => fun
  | [d1, d2] => { results := [.lit (.bool true)], args := [d1, d2] }
  | _ => none }
def queueDelsRow : OpenClaim := { program := "yteigcjgohhgjcaa", sum := "7d76afcf82775c9bde96bafd688da465fed09da91beeca6f34d50fca76e586d1", func := "treadmill/treadmilllaw11.QueueDels", spec := "queueDels", apart := false }
def QueueDelsSaid : Prop := queueDelsRow.holds Try.pinned (OpenSpec.ofChange queueDelsSpec)

/-- ITS FALSE NEIGHBOUR: 'it returns false'. Refute it at one input. -/
def queueDelsWrong : ChangeSpec := { name := "queueDels", fn := fun _ => fun
  | [d1, d2] => { results := [.lit (.bool false)], args := [d1, d2] }
  | _ => none }
def QueueDelsWrongFalsely : Prop := queueDelsRow.holds Try.pinned (OpenSpec.ofChange queueDelsWrong)

/-- 'treadmilllaw12.StatePlays': WHATEVER THE INPUT: true; the input reads as it did. -/
def statePlaysSpec : ChangeSpec := { name := "statePlays", fn := fun _ => fun
  | [d] => { results := [.lit (.bool true)], args := [d] }
  | _ => none }
def statePlaysRow : OpenClaim := { program := "yteigcjgohhgjcaa", sum := "7d76afcf82775c9bde96bafd688da465fed09da91beeca6f34d50fca76e586d1", func := "treadmill/treadmilllaw12.StatePlays", spec := "statePlays", apart := false }
def StatePlaysSaid : Prop := statePlaysRow.holds Try.pinned (OpenSpec.ofChange statePlaysSpec)

/-- ITS FALSE NEIGHBOUR: 'it returns false'. Refute it at one input. -/
def statePlaysWrong : ChangeSpec := { name := "statePlays", fn := fun _ => fun
  | [d] => { results := [.lit (.bool false)], args := [d] }
  | _ => none }
def StatePlaysWrongFalsely : Prop := statePlaysRow.holds Try.pinned (OpenSpec.ofChange statePlaysWrong)

/-- 'treadmilllaw12.StateMay': WHATEVER THE INPUT: true; the input reads as it did. -/
def stateMaySpec : ChangeSpec := { name := "stateMay", fn := fun _ => fun
  | [d1, d2] => { results := [.lit (.bool true)], args := [d1, d2] }
  | _ => none }
def stateMayRow : OpenClaim := { program := "yteigcjgohhgjcaa", sum := "7d76afcf82775c9bde96bafd688da465fed09da91beeca6f34d50fca76e586d1", func := "treadmill/treadmilllaw12.StateMay", spec := "stateMay", apart := false }
def StateMaySaid : Prop := stateMayRow.holds Try.pinned (OpenSpec.ofChange stateMaySpec)

/-- ITS FALSE NEIGHBOUR: 'it returns false'. Refute it at one input. -/
def stateMayWrong : ChangeSpec := { name := "stateMay", fn := fun _ => fun
  | [d1, d2] => { results := [.lit (.bool false)], args := [d1, d2] }
  | _ => none }
def StateMayWrongFalsely : Prop := stateMayRow.holds Try.pinned (OpenSpec.ofChange stateMayWrong)

/-- 'treadmilllaw12.StateMany': WHATEVER THE INPUT: true; the input reads as it did. -/
def stateManySpec : ChangeSpec := { name := "stateMany", fn := fun _ => fun
  | [d1, d2] => { results := [.lit (.bool true)], args := [d1, d2] }
  | _ => none }
def stateManyRow : OpenClaim := { program := "yteigcjgohhgjcaa", sum := "7d76afcf82775c9bde96bafd688da465fed09da91beeca6f34d50fca76e586d1", func := "treadmill/treadmilllaw12.StateMany", spec := "stateMany", apart := false }
def StateManySaid : Prop := stateManyRow.holds Try.pinned (OpenSpec.ofChange stateManySpec)

/-- ITS FALSE NEIGHBOUR: 'it returns false'. Refute it at one input. -/
def stateManyWrong : ChangeSpec := { name := "stateMany", fn := fun _ => fun
  | [d1, d2] => { results := [.lit (.bool false)], args := [d1, d2] }
  | _ => none }
def StateManyWrongFalsely : Prop := stateManyRow.holds Try.pinned (OpenSpec.ofChange stateManyWrong)

/-- 'treadmilllaw12.StateLives': WHATEVER THE INPUT: true; the input reads as it did. -/
def stateLivesSpec : ChangeSpec := { name := "stateLives", fn := fun _ => fun
  | [d] => { results := [.lit (.bool true)], args := [d] }
  | _ => none }
def stateLivesRow : OpenClaim := { program := "yteigcjgohhgjcaa", sum := "7d76afcf82775c9bde96bafd688da465fed09da91beeca6f34d50fca76e586d1", func := "treadmill/treadmilllaw12.StateLives", spec := "stateLives", apart := false }
def StateLivesSaid : Prop := stateLivesRow.holds Try.pinned (OpenSpec.ofChange stateLivesSpec)

/-- ITS FALSE NEIGHBOUR: 'it returns false'. Refute it at one input. -/
def stateLivesWrong : ChangeSpec := { name := "stateLives", fn := fun _ => fun
  | [d] => { results := [.lit (.bool false)], args := [d] }
  | _ => none }
def StateLivesWrongFalsely : Prop := stateLivesRow.holds Try.pinned (OpenSpec.ofChange stateLivesWrong)

/- THE SECOND FORM. 'bulk': how many values and letters a reading holds, each counted each time it is reached (what is shared counts as often as it is met; a slice's spare places count too). A statement '..UptoSaid' is the law's where the arguments, and the package variables that the reading takes, are together of bulk at most 1048576: NARROWER than '..Said'. Prove '..Said' where nothing that the law and all that it calls make is longer than what came in: it says more and counts as full. Else prove '..UptoSaid'. A law counts once. -/
mutual
def uptoBulk {H : Type} : DataW H → Nat
  | .lit (.string bytes) => bytes.length + 1
  | .lit _ => 1
  | .nil => 1
  | .ptr d => uptoBulk d + 1
  | .slice elems spare => uptoBulkAll elems + uptoBulkAll spare + 1
  | .agg parts => uptoBulkAll parts + 1
  | .iface _ d => uptoBulk d + 1
  | .map entries => uptoBulkEntries entries + 1
  | .held _ => 1
def uptoBulkAll {H : Type} : List (DataW H) → Nat
  | [] => 0
  | d :: r => uptoBulk d + uptoBulkAll r
def uptoBulkEntries {H : Type} : List (Lit × DataW H) → Nat
  | [] => 0
  | x :: r => uptoBulkEntry x + uptoBulkEntries r
def uptoBulkEntry {H : Type} : Lit × DataW H → Nat
  | (.string bytes, d) => bytes.length + uptoBulk d + 1
  | (_, d) => uptoBulk d + 1
 end
def uptoSmall : (H : Type) → List (DataW H) → Bool := fun _ ds => decide (uptoBulkAll ds ≤ 1048576)
def OpenSpec.upto (s : _root_.Go.ChangeSpec) : _root_.Go.OpenSpec := { _root_.Go.OpenSpec.ofChange s with cond := some uptoSmall }

/-- 'treadmilllaw10.RingPlays', WHERE WHAT IT READS IS OF BULK AT MOST 1048576: true; the input reads as it did. -/
def ringPlaysUptoRow : OpenClaim := { program := "yteigcjgohhgjcaa", sum := "7d76afcf82775c9bde96bafd688da465fed09da91beeca6f34d50fca76e586d1", func := "treadmill/treadmilllaw10.RingPlays", spec := "ringPlays", apart := false, narrowed := true }
def RingPlaysUptoSaid : Prop := ringPlaysUptoRow.holds Try.pinned (OpenSpec.upto ringPlaysSpec)

/-- 'treadmilllaw10.RingKeeps', WHERE WHAT IT READS IS OF BULK AT MOST 1048576: true; the input reads as it did. -/
def ringKeepsUptoRow : OpenClaim := { program := "yteigcjgohhgjcaa", sum := "7d76afcf82775c9bde96bafd688da465fed09da91beeca6f34d50fca76e586d1", func := "treadmill/treadmilllaw10.RingKeeps", spec := "ringKeeps", apart := false, narrowed := true }
def RingKeepsUptoSaid : Prop := ringKeepsUptoRow.holds Try.pinned (OpenSpec.upto ringKeepsSpec)

/-- 'treadmilllaw10.RingSteals', WHERE WHAT IT READS IS OF BULK AT MOST 1048576: true; the input reads as it did. -/
def ringStealsUptoRow : OpenClaim := { program := "yteigcjgohhgjcaa", sum := "7d76afcf82775c9bde96bafd688da465fed09da91beeca6f34d50fca76e586d1", func := "treadmill/treadmilllaw10.RingSteals", spec := "ringSteals", apart := false, narrowed := true }
def RingStealsUptoSaid : Prop := ringStealsUptoRow.holds Try.pinned (OpenSpec.upto ringStealsSpec)

/-- 'treadmilllaw10.RingNexts', WHERE WHAT IT READS IS OF BULK AT MOST 1048576: true; the input reads as it did. -/
def ringNextsUptoRow : OpenClaim := { program := "yteigcjgohhgjcaa", sum := "7d76afcf82775c9bde96bafd688da465fed09da91beeca6f34d50fca76e586d1", func := "treadmill/treadmilllaw10.RingNexts", spec := "ringNexts", apart := false, narrowed := true }
def RingNextsUptoSaid : Prop := ringNextsUptoRow.holds Try.pinned (OpenSpec.upto ringNextsSpec)

/-- 'treadmilllaw10.RingDels', WHERE WHAT IT READS IS OF BULK AT MOST 1048576: true; the input reads as it did. -/
def ringDelsUptoRow : OpenClaim := { program := "yteigcjgohhgjcaa", sum := "7d76afcf82775c9bde96bafd688da465fed09da91beeca6f34d50fca76e586d1", func := "treadmill/treadmilllaw10.RingDels", spec := "ringDels", apart := false, narrowed := true }
def RingDelsUptoSaid : Prop := ringDelsUptoRow.holds Try.pinned (OpenSpec.upto ringDelsSpec)

/-- 'treadmilllaw11.QueuePlays', WHERE WHAT IT READS IS OF BULK AT MOST 1048576: true; the input reads as it did. -/
def queuePlaysUptoRow : OpenClaim := { program := "yteigcjgohhgjcaa", sum := "7d76afcf82775c9bde96bafd688da465fed09da91beeca6f34d50fca76e586d1", func := "treadmill/treadmilllaw11.QueuePlays", spec := "queuePlays", apart := false, narrowed := true }
def QueuePlaysUptoSaid : Prop := queuePlaysUptoRow.holds Try.pinned (OpenSpec.upto queuePlaysSpec)

/-- 'treadmilllaw11.QueueFair', WHERE WHAT IT READS IS OF BULK AT MOST 1048576: true; the input reads as it did. -/
def queueFairUptoRow : OpenClaim := { program := "yteigcjgohhgjcaa", sum := "7d76afcf82775c9bde96bafd688da465fed09da91beeca6f34d50fca76e586d1", func := "treadmill/treadmilllaw11.QueueFair", spec := "queueFair", apart := false, narrowed := true }
def QueueFairUptoSaid : Prop := queueFairUptoRow.holds Try.pinned (OpenSpec.upto queueFairSpec)

/-- 'treadmilllaw11.QueueDels', WHERE WHAT IT READS IS OF BULK AT MOST 1048576: true; the input reads as it did. -/
def queueDelsUptoRow : OpenClaim := { program := "yteigcjgohhgjcaa", sum := "7d76afcf82775c9bde96bafd688da465fed09da91beeca6f34d50fca76e586d1", func := "treadmill/treadmilllaw11.QueueDels", spec := "queueDels", apart := false, narrowed := true }
def QueueDelsUptoSaid : Prop := queueDelsUptoRow.holds Try.pinned (OpenSpec.upto queueDelsSpec)

/-- 'treadmilllaw12.StatePlays', WHERE WHAT IT READS IS OF BULK AT MOST 1048576: true; the input reads as it did. -/
def statePlaysUptoRow : OpenClaim := { program := "yteigcjgohhgjcaa", sum := "7d76afcf82775c9bde96bafd688da465fed09da91beeca6f34d50fca76e586d1", func := "treadmill/treadmilllaw12.StatePlays", spec := "statePlays", apart := false, narrowed := true }
def StatePlaysUptoSaid : Prop := statePlaysUptoRow.holds Try.pinned (OpenSpec.upto statePlaysSpec)

/-- 'treadmilllaw12.StateMay', WHERE WHAT IT READS IS OF BULK AT MOST 1048576: true; the input reads as it did. -/
def stateMayUptoRow : OpenClaim := { program := "yteigcjgohhgjcaa", sum := "7d76afcf82775c9bde96bafd688da465fed09da91beeca6f34d50fca76e586d1", func := "treadmill/treadmilllaw12.StateMay", spec := "stateMay", apart := false, narrowed := true }
def StateMayUptoSaid : Prop := stateMayUptoRow.holds Try.pinned (OpenSpec.upto stateMaySpec)

/-- 'treadmilllaw12.StateMany', WHERE WHAT IT READS IS OF BULK AT MOST 1048576: true; the input reads as it did. -/
def stateManyUptoRow : OpenClaim := { program := "yteigcjgohhgjcaa", sum := "7d76afcf82775c9bde96bafd688da465fed09da91beeca6f34d50fca76e586d1", func := "treadmill/treadmilllaw12.StateMany", spec := "stateMany", apart := false, narrowed := true }
def StateManyUptoSaid : Prop := stateManyUptoRow.holds Try.pinned (OpenSpec.upto stateManySpec)

/-- 'treadmilllaw12.StateLives', WHERE WHAT IT READS IS OF BULK AT MOST 1048576: true; the input reads as it did. -/
def stateLivesUptoRow : OpenClaim := { program := "yteigcjgohhgjcaa", sum := "7d76afcf82775c9bde96bafd688da465fed09da91beeca6f34d50fca76e586d1", func := "treadmill/treadmilllaw12.StateLives", spec := "stateLives", apart := false, narrowed := true }
def StateLivesUptoSaid : Prop := stateLivesUptoRow.holds Try.pinned (OpenSpec.upto stateLivesSpec)

end Rows
end Go.Proofs.Yteigcjgohhgjcaa
