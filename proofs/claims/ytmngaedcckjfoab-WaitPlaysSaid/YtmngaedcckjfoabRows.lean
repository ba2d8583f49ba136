/-
  No cell of these rows narrows 'for every input' (looked for: loops, veiled, ifaces, maps, wideKeys, modest, calm, conditions, laid).
  DERIVED. THE GIVEN ROWS OF THIS SEAT. 12 by the template 'for every input the law returns true; each argument reads behind the call as it read before'; 0 by the template 'total and deterministic' (their statements: YtmngaedcckjfoabTotals.lean).
  GIVEN WITH THE SEED: the statements are not yours to turn. If you find one false, say at which input.
  Laid BY PROGRAM, IN A SANDBOX (cutbox-rows.mjs): the forced cells as the released guide's own fill.sh prints them over the translation 5302330c7de274f3… (all of the seat's roots in one cut). By AI agents, Wed Nov 11 2026. No macro, syntax, notation, axiom, sorry.
-/
import Derived.Test.YtmngaedcckjfoabChecked
import GoSem.Claim
import GoSem.ClaimJoined
import GoSem.ClaimMapViews
import Derived.JoinedTies
import Derived.KernelRfl
namespace Go.Proofs.Ytmngaedcckjfoab
/- THE CELL 'sum', in the pinned program and in every row, IS THE sha256 OF THE DUMP (.gsa) THAT YtmngaedcckjfoabProg.lean LOADS. Nothing in Lean hashes anything: it is a label: what it is worth is what the hold of that sum in a sandbox is worth. -/
noncomputable def Try.pinned : Pinned := { name := "ytmngaedcckjfoab", sum := "5302330c7de274f399f4e30a7d33cd256d351458368bfb5d35b0c65afb414d90", checked := Try.checked }
namespace Rows
def none {H : Type} : Left H := { results := [], args := [] }

/-- 'treadmilllaw17.BufferPlays': WHATEVER THE INPUT: true; the input reads as it did. -/
def bufferPlaysSpec : ChangeSpec := { name := "bufferPlays", fn := fun _ => fun
  | [d] => { results := [.lit (.bool true)], args := [d] }
  | _ => none }
def bufferPlaysRow : OpenClaim := { program := "ytmngaedcckjfoab", sum := "5302330c7de274f399f4e30a7d33cd256d351458368bfb5d35b0c65afb414d90", func := "treadmill/treadmilllaw17.BufferPlays", spec := "bufferPlays", apart := false }
def BufferPlaysSaid : Prop := bufferPlaysRow.holds Try.pinned (OpenSpec.ofChange bufferPlaysSpec)

/-- ITS FALSE NEIGHBOUR: 'it returns false'. Refute it at one input. -/
def bufferPlaysWrong : ChangeSpec := { name := "bufferPlays", fn := fun _ => fun
  | [d] => { results := [.lit (.bool false)], args := [d] }
  | _ => none }
def BufferPlaysWrongFalsely : Prop := bufferPlaysRow.holds Try.pinned (OpenSpec.ofChange bufferPlaysWrong)

/-- 'treadmilllaw19.BarrierPlays': WHATEVER THE INPUT: true; the input reads as it did. -/
def barrierPlaysSpec : ChangeSpec := { name := "barrierPlays", fn := fun _ => fun
  | [d1, d2] => { results := [.lit (.bool true)], args := [d1, d2] }
  | _ => none }
def barrierPlaysRow : OpenClaim := { program := "ytmngaedcckjfoab", sum := "5302330c7de274f399f4e30a7d33cd256d351458368bfb5d35b0c65afb414d90", func := "treadmill/treadmilllaw19.BarrierPlays", spec := "barrierPlays", apart := false }
def BarrierPlaysSaid : Prop := barrierPlaysRow.holds Try.pinned (OpenSpec.ofChange barrierPlaysSpec)

/-- ITS FALSE NEIGHBOUR: 'it returns false'. Refute it at one input. -/
def barrierPlaysWrong : ChangeSpec := { name := "barrierPlays", fn := fun _ => fun
  | [d1, d2] => { results := [.lit (.bool false)], args := [d1, d2] }
  | _ => none }
def BarrierPlaysWrongFalsely : Prop := barrierPlaysRow.holds Try.pinned (OpenSpec.ofChange barrierPlaysWrong)

/-- 'treadmilllaw19.BarrierTells': WHATEVER THE INPUT: true; the input reads as it did. -/
def barrierTellsSpec : ChangeSpec := { name := "barrierTells", fn := fun _ => fun
  | [d] => { results := [.lit (.bool true)], args := [d] }
  | _ => none }
def barrierTellsRow : OpenClaim := { program := "ytmngaedcckjfoab", sum := "5302330c7de274f399f4e30a7d33cd256d351458368bfb5d35b0c65afb414d90", func := "treadmill/treadmilllaw19.BarrierTells", spec := "barrierTells", apart := false }
def BarrierTellsSaid : Prop := barrierTellsRow.holds Try.pinned (OpenSpec.ofChange barrierTellsSpec)

/-- ITS FALSE NEIGHBOUR: 'it returns false'. Refute it at one input. -/
def barrierTellsWrong : ChangeSpec := { name := "barrierTells", fn := fun _ => fun
  | [d] => { results := [.lit (.bool false)], args := [d] }
  | _ => none }
def BarrierTellsWrongFalsely : Prop := barrierTellsRow.holds Try.pinned (OpenSpec.ofChange barrierTellsWrong)

/-- 'treadmilllaw14.WaitPlays': WHATEVER THE INPUT: true; the input reads as it did. -/
def waitPlaysSpec : ChangeSpec := { name := "waitPlays", fn := fun _ => fun
  | [d] => { results := [.lit (.bool true)], args := [d] }
  | _ => none }
def waitPlaysRow : OpenClaim := { program := "ytmngaedcckjfoab", sum := "5302330c7de274f399f4e30a7d33cd256d351458368bfb5d35b0c65afb414d90", func := "treadmill/treadmilllaw14.WaitPlays", spec := "waitPlays", apart := false }
def WaitPlaysSaid : Prop := waitPlaysRow.holds Try.pinned (OpenSpec.ofChange waitPlaysSpec)

/-- ITS FALSE NEIGHBOUR: 'it returns false'. Refute it at one input. -/
def waitPlaysWrong : ChangeSpec := { name := "waitPlays", fn := fun _ => fun
  | [d] => { results := [.lit (.bool false)], args := [d] }
  | _ => none }
def WaitPlaysWrongFalsely : Prop := waitPlaysRow.holds Try.pinned (OpenSpec.ofChange waitPlaysWrong)

/-- 'treadmilllaw18.PoolLists': WHATEVER THE INPUT: true; the input reads as it did. -/
def poolListsSpec : ChangeSpec := { name := "poolLists", fn := fun _ => fun
  | [d] => { results := [.lit (.bool true)], args := [d] }
  | _ => none }
def poolListsRow : OpenClaim := { program := "ytmngaedcckjfoab", sum := "5302330c7de274f399f4e30a7d33cd256d351458368bfb5d35b0c65afb414d90", func := "treadmill/treadmilllaw18.PoolLists", spec := "poolLists", apart := false }
def PoolListsSaid : Prop := poolListsRow.holds Try.pinned (OpenSpec.ofChange poolListsSpec)

/-- ITS FALSE NEIGHBOUR: 'it returns false'. Refute it at one input. -/
def poolListsWrong : ChangeSpec := { name := "poolLists", fn := fun _ => fun
  | [d] => { results := [.lit (.bool false)], args := [d] }
  | _ => none }
def PoolListsWrongFalsely : Prop := poolListsRow.holds Try.pinned (OpenSpec.ofChange poolListsWrong)

/-- 'treadmilllaw18.PoolOnce': WHATEVER THE INPUT: true; the input reads as it did. -/
def poolOnceSpec : ChangeSpec := { name := "poolOnce", fn := fun _ => fun
  | [d1, d2, d3] => { results := [.lit (.bool true)], args := [d1, d2, d3] }
  | _ => none }
def poolOnceRow : OpenClaim := { program := "ytmngaedcckjfoab", sum := "5302330c7de274f399f4e30a7d33cd256d351458368bfb5d35b0c65afb414d90", func := "treadmill/treadmilllaw18.PoolOnce", spec := "poolOnce", apart := false }
def PoolOnceSaid : Prop := poolOnceRow.holds Try.pinned (OpenSpec.ofChange poolOnceSpec)

/-- ITS FALSE NEIGHBOUR: 'it returns false'. Refute it at one input. -/
def poolOnceWrong : ChangeSpec := { name := "poolOnce", fn := fun _ => fun
  | [d1, d2, d3] => { results := [.lit (.bool false)], args := [d1, d2, d3] }
  | _ => none }
def PoolOnceWrongFalsely : Prop := poolOnceRow.holds Try.pinned (OpenSpec.ofChange poolOnceWrong)

/-- 'treadmilllaw18.PoolFlags': WHATEVER THE INPUT: true; the input reads as it did. -/
def poolFlagsSpec : ChangeSpec := { name := "poolFlags", fn := fun _ => fun
  | [d] => { results := [.lit (.bool true)], args := [d] }
  | _ => none }
def poolFlagsRow : OpenClaim := { program := "ytmngaedcckjfoab", sum := "5302330c7de274f399f4e30a7d33cd256d351458368bfb5d35b0c65afb414d90", func := "treadmill/treadmilllaw18.PoolFlags", spec := "poolFlags", apart := false }
def PoolFlagsSaid : Prop := poolFlagsRow.holds Try.pinned (OpenSpec.ofChange poolFlagsSpec)

/-- ITS FALSE NEIGHBOUR: 'it returns false'. Refute it at one input. -/
def poolFlagsWrong : ChangeSpec := { name := "poolFlags", fn := fun _ => fun
  | [d] => { results := [.lit (.bool false)], args := [d] }
  | _ => none }
def PoolFlagsWrongFalsely : Prop := poolFlagsRow.holds Try.pinned (OpenSpec.ofChange poolFlagsWrong)

/-- 'treadmilllaw13.TimerTwice': WHATEVER THE INPUT: true; the input reads as it did. -/
def timerTwiceSpec : ChangeSpec := { name := "timerTwice", fn := fun _ => fun
  | [d1, d2, d3] => { results := [.lit (.bool true)], args := [d1, d2, d3] }
  | _ => none }
def timerTwiceRow : OpenClaim := { program := "ytmngaedcckjfoab", sum := "5302330c7de274f399f4e30a7d33cd256d351458368bfb5d35b0c65afb414d90", func := "treadmill/treadmilllaw13.TimerTwice", spec := "timerTwice", unfollowed := true, recurses := true, apart := false }
def TimerTwiceSaid : Prop := timerTwiceRow.holds Try.pinned (OpenSpec.ofChange timerTwiceSpec)

/-- ITS FALSE NEIGHBOUR: 'it returns false'. Refute it at one input. -/
def timerTwiceWrong : ChangeSpec := { name := "timerTwice", fn := fun _ => fun
  | [d1, d2, d3] => { results := [.lit (.bool false)], args := [d1, d2, d3] }
  | _ => none }
def TimerTwiceWrongFalsely : Prop := timerTwiceRow.holds Try.pinned (OpenSpec.ofChange timerTwiceWrong)

/-- 'treadmilllaw13.TimerPlays': WHATEVER THE INPUT: true; the input reads as it did. -/
def timerPlaysSpec : ChangeSpec := { name := "timerPlays", fn := fun _ => fun
  | [d] => { results := [.lit (.bool true)], args := [d] }
  | _ => none }
def timerPlaysRow : OpenClaim := { program := "ytmngaedcckjfoab", sum := "5302330c7de274f399f4e30a7d33cd256d351458368bfb5d35b0c65afb414d90", func := "treadmill/treadmilllaw13.TimerPlays", spec := "timerPlays", unfollowed := true, recurses := true, apart := false }
def TimerPlaysSaid : Prop := timerPlaysRow.holds Try.pinned (OpenSpec.ofChange timerPlaysSpec)

/-- ITS FALSE NEIGHBOUR: 'it returns false'. Refute it at one input. -/
def timerPlaysWrong : ChangeSpec := { name := "timerPlays", fn := fun _ => fun
  | [d] => { results := [.lit (.bool false)], args := [d] }
  | _ => none }
def TimerPlaysWrongFalsely : Prop := timerPlaysRow.holds Try.pinned (OpenSpec.ofChange timerPlaysWrong)

/-- 'treadmilllaw13.TimerTimes': WHATEVER THE INPUT: true; the input reads as it did. -/
def timerTimesSpec : ChangeSpec := { name := "timerTimes", fn := fun _ => fun
  | [d1, d2] => { results := [.lit (.bool true)], args := [d1, d2] }
  | _ => none }
def timerTimesRow : OpenClaim := { program := "ytmngaedcckjfoab", sum := "5302330c7de274f399f4e30a7d33cd256d351458368bfb5d35b0c65afb414d90", func := "treadmill/treadmilllaw13.TimerTimes", spec := "timerTimes", unfollowed := true, recurses := true, apart := false }
def TimerTimesSaid : Prop := timerTimesRow.holds Try.pinned (OpenSpec.ofChange timerTimesSpec)

/-- ITS FALSE NEIGHBOUR: 'it returns false'. Refute it at one input. -/
def timerTimesWrong : ChangeSpec := { name := "timerTimes", fn := fun _ => fun
  | [d1, d2] => { results := [.lit (.bool false)], args := [d1, d2] }
  | _ => none }
def TimerTimesWrongFalsely : Prop := timerTimesRow.holds Try.pinned (OpenSpec.ofChange timerTimesWrong)

/-- 'treadmilllaw13.TimerNobody': WHATEVER THE INPUT: true; the input reads as it did. -/
def timerNobodySpec : ChangeSpec := { name := "timerNobody", fn := fun _ => fun
  | [d1, d2] => { results := [.lit (.bool true)], args := [d1, d2] }
  | _ => none }
def timerNobodyRow : OpenClaim := { program := "ytmngaedcckjfoab", sum := "5302330c7de274f399f4e30a7d33cd256d351458368bfb5d35b0c65afb414d90", func := "treadmill/treadmilllaw13.TimerNobody", spec := "timerNobody", unfollowed := true, recurses := true, apart := false }
def TimerNobodySaid : Prop := timerNobodyRow.holds Try.pinned (OpenSpec.ofChange timerNobodySpec)

/-- ITS FALSE NEIGHBOUR: 'it returns false'. Refute it at one input. -/
def timerNobodyWrong : ChangeSpec := { name := "timerNobody", fn := fun _ => fun
  | [d1, d2] => { results := [.lit (.bool false)], args := [d1, d2] }
  | _ => none }
def TimerNobodyWrongFalsely : Prop := timerNobodyRow.holds Try.pinned (OpenSpec.ofChange timerNobodyWrong)

/-- 'treadmilllaw13.TimerOrder': WHATEVER THE INPUT: true; the input reads as it did. -/
def timerOrderSpec : ChangeSpec := { name := "timerOrder", fn := fun _ => fun
  | [d] => { results := [.lit (.bool true)], args := [d] }
  | _ => none }
def timerOrderRow : OpenClaim := { program := "ytmngaedcckjfoab", sum := "5302330c7de274f399f4e30a7d33cd256d351458368bfb5d35b0c65afb414d90", func := "treadmill/treadmilllaw13.TimerOrder", spec := "timerOrder", unfollowed := true, recurses := true, apart := false }
def TimerOrderSaid : Prop := timerOrderRow.holds Try.pinned (OpenSpec.ofChange timerOrderSpec)

/-- ITS FALSE NEIGHBOUR: 'it returns false'. Refute it at one input. -/
def timerOrderWrong : ChangeSpec := { name := "timerOrder", fn := fun _ => fun
  | [d] => { results := [.lit (.bool false)], args := [d] }
  | _ => none }
def TimerOrderWrongFalsely : Prop := timerOrderRow.holds Try.pinned (OpenSpec.ofChange timerOrderWrong)

/- THE SECOND FORM. 'bulk': how many values and letters a reading holds, each counted each time it is reached (what is shared counts as often as it is met; a slice's spare places count too). A statement '..UptoSaid' is the law's where the arguments, and the package variables that the reading takes, are together of bulk at most 1048576: NARROWER than '..Said'. Prove '..Said' where nothing that the law and all that it calls make is longer than what came in: it says more and counts as full. Else prove '..UptoSaid'. A law counts once. -/
mutual
def uptoBulk {H : Type} : DataW H → Nat
  | .lit (.string bytes) => bytes.length + 1
  | .lit _ => 1
  | .nil => 1
  | .ptr d => uptoBulk d + 1
  | .slice elems spare => uptoBulkAll elems + uptoBulkAll spare + 1
  | .agg parts => uptoBulkAll parts + 1
  | .iface _ d => uptoBulk d + 1
  | .map entries => uptoBulkEntries entries + 1
  | .held _ => 1
def uptoBulkAll {H : Type} : List (DataW H) → Nat
  | [] => 0
  | d :: r => uptoBulk d + uptoBulkAll r
def uptoBulkEntries {H : Type} : List (Lit × DataW H) → Nat
  | [] => 0
  | x :: r => uptoBulkEntry x + uptoBulkEntries r
def uptoBulkEntry {H : Type} : Lit × DataW H → Nat
  | (.string bytes, d) => bytes.length + uptoBulk d + 1
  | (_, d) => uptoBulk d + 1
 end
def uptoSmall : (H : Type) → List (DataW H) → Bool := fun _ ds => decide (uptoBulkAll ds ≤ 1048576)
def OpenSpec.upto (s : _root_.Go.ChangeSpec) : _root_.Go.OpenSpec := { _root_.Go.OpenSpec.ofChange s with cond := some uptoSmall }

/-- 'treadmilllaw17.BufferPlays', WHERE WHAT IT READS IS OF BULK AT MOST 1048576: true; the input reads as it did. -/
def bufferPlaysUptoRow : OpenClaim := { program := "ytmngaedcckjfoab", sum := "5302330c7de274f399f4e30a7d33cd256d351458368bfb5d35b0c65afb414d90", func := "treadmill/treadmilllaw17.BufferPlays", spec := "bufferPlays", apart := false, narrowed := true }
def BufferPlaysUptoSaid : Prop := bufferPlaysUptoRow.holds Try.pinned (OpenSpec.upto bufferPlaysSpec)

/-- 'treadmilllaw19.BarrierPlays', WHERE WHAT IT READS IS OF BULK AT MOST 1048576: true; the input reads as it did. -/
def barrierPlaysUptoRow : OpenClaim := { program := "ytmngaedcckjfoab", sum := "5302330c7de274f399f4e30a7d33cd256d351458368bfb5d35b0c65afb414d90", func := "treadmill/treadmilllaw19.BarrierPlays", spec := "barrierPlays", apart := false, narrowed := true }
def BarrierPlaysUptoSaid : Prop := barrierPlaysUptoRow.holds Try.pinned (OpenSpec.upto barrierPlaysSpec)

/-- 'treadmilllaw19.BarrierTells', WHERE WHAT IT READS IS OF BULK AT MOST 1048576: true; the input reads as it did. -/
def barrierTellsUptoRow : OpenClaim := { program := "ytmngaedcckjfoab", sum := "5302330c7de274f399f4e30a7d33cd256d351458368bfb5d35b0c65afb414d90", func := "treadmill/treadmilllaw19.BarrierTells", spec := "barrierTells", apart := false, narrowed := true }
def BarrierTellsUptoSaid : Prop := barrierTellsUptoRow.holds Try.pinned (OpenSpec.upto barrierTellsSpec)

/-- 'treadmilllaw14.WaitPlays', WHERE WHAT IT READS IS OF BULK AT MOST 1048576: true; the input reads as it did. -/
def waitPlaysUptoRow : OpenClaim := { program := "ytmngaedcckjfoab", sum := "5302330c7de274f399f4e30a7d33cd256d351458368bfb5d35b0c65afb414d90", func := "treadmill/treadmilllaw14.WaitPlays", spec := "waitPlays", apart := false, narrowed := true }
def WaitPlaysUptoSaid : Prop := waitPlaysUptoRow.holds Try.pinned (OpenSpec.upto waitPlaysSpec)

/-- 'treadmilllaw18.PoolLists', WHERE WHAT IT READS IS OF BULK AT MOST 1048576: true; the input reads as it did. -/
def poolListsUptoRow : OpenClaim := { program := "ytmngaedcckjfoab", sum := "5302330c7de274f399f4e30a7d33cd256d351458368bfb5d35b0c65afb414d90", func := "treadmill/treadmilllaw18.PoolLists", spec := "poolLists", apart := false, narrowed := true }
def PoolListsUptoSaid : Prop := poolListsUptoRow.holds Try.pinned (OpenSpec.upto poolListsSpec)

/-- 'treadmilllaw18.PoolOnce', WHERE WHAT IT READS IS OF BULK AT MOST 1048576: true; the input reads as it did. -/
def poolOnceUptoRow : OpenClaim := { program := "ytmngaedcckjfoab", sum := "5302330c7de274f399f4e30a7d33cd256d351458368bfb5d35b0c65afb414d90", func := "treadmill/treadmilllaw18.PoolOnce", spec := "poolOnce", apart := false, narrowed := true }
def PoolOnceUptoSaid : Prop := poolOnceUptoRow.holds Try.pinned (OpenSpec.upto poolOnceSpec)

/-- 'treadmilllaw18.PoolFlags', WHERE WHAT IT READS IS OF BULK AT MOST 1048576: true; the input reads as it did. -/
def poolFlagsUptoRow : OpenClaim := { program := "ytmngaedcckjfoab", sum := "5302330c7de274f399f4e30a7d33cd256d351458368bfb5d35b0c65afb414d90", func := "treadmill/treadmilllaw18.PoolFlags", spec := "poolFlags", apart := false, narrowed := true }
def PoolFlagsUptoSaid : Prop := poolFlagsUptoRow.holds Try.pinned (OpenSpec.upto poolFlagsSpec)

/-- 'treadmilllaw13.TimerTwice', WHERE WHAT IT READS IS OF BULK AT MOST 1048576: true; the input reads as it did. -/
def timerTwiceUptoRow : OpenClaim := { program := "ytmngaedcckjfoab", sum := "5302330c7de274f399f4e30a7d33cd256d351458368bfb5d35b0c65afb414d90", func := "treadmill/treadmilllaw13.TimerTwice", spec := "timerTwice", unfollowed := true, recurses := true, apart := false, narrowed := true }
def TimerTwiceUptoSaid : Prop := timerTwiceUptoRow.holds Try.pinned (OpenSpec.upto timerTwiceSpec)

/-- 'treadmilllaw13.TimerPlays', WHERE WHAT IT READS IS OF BULK AT MOST 1048576: true; the input reads as it did. -/
def timerPlaysUptoRow : OpenClaim := { program := "ytmngaedcckjfoab", sum := "5302330c7de274f399f4e30a7d33cd256d351458368bfb5d35b0c65afb414d90", func := "treadmill/treadmilllaw13.TimerPlays", spec := "timerPlays", unfollowed := true, recurses := true, apart := false, narrowed := true }
def TimerPlaysUptoSaid : Prop := timerPlaysUptoRow.holds Try.pinned (OpenSpec.upto timerPlaysSpec)

/-- 'treadmilllaw13.TimerTimes', WHERE WHAT IT READS IS OF BULK AT MOST 1048576: true; the input reads as it did. -/
def timerTimesUptoRow : OpenClaim := { program := "ytmngaedcckjfoab", sum := "5302330c7de274f399f4e30a7d33cd256d351458368bfb5d35b0c65afb414d90", func := "treadmill/treadmilllaw13.TimerTimes", spec := "timerTimes", unfollowed := true, recurses := true, apart := false, narrowed := true }
def TimerTimesUptoSaid : Prop := timerTimesUptoRow.holds Try.pinned (OpenSpec.upto timerTimesSpec)

/-- 'treadmilllaw13.TimerNobody', WHERE WHAT IT READS IS OF BULK AT MOST 1048576: true; the input reads as it did. -/
def timerNobodyUptoRow : OpenClaim := { program := "ytmngaedcckjfoab", sum := "5302330c7de274f399f4e30a7d33cd256d351458368bfb5d35b0c65afb414d90", func := "treadmill/treadmilllaw13.TimerNobody", spec := "timerNobody", unfollowed := true, recurses := true, apart := false, narrowed := true }
def TimerNobodyUptoSaid : Prop := timerNobodyUptoRow.holds Try.pinned (OpenSpec.upto timerNobodySpec)

/-- 'treadmilllaw13.TimerOrder', WHERE WHAT IT READS IS OF BULK AT MOST 1048576: true; the input reads as it did. -/
def timerOrderUptoRow : OpenClaim := { program := "ytmngaedcckjfoab", sum := "5302330c7de274f399f4e30a7d33cd256d351458368bfb5d35b0c65afb414d90", func := "treadmill/treadmilllaw13.TimerOrder", spec := "timerOrder", unfollowed := true, recurses := true, apart := false, narrowed := true }
def TimerOrderUptoSaid : Prop := timerOrderUptoRow.holds Try.pinned (OpenSpec.upto timerOrderSpec)

end Rows
end Go.Proofs.Ytmngaedcckjfoab
