/-
  No cell of these rows narrows 'for every input' (looked for: loops, veiled, ifaces, maps, wideKeys, modest, calm, conditions, laid).
  DERIVED. THE GIVEN ROWS OF THIS SEAT. 12 by the template 'for every input the law returns true; each argument reads behind the call as it read before'; 0 by the template 'total and deterministic' (their statements: YtmngaedcckjfoaaTotals.lean).
  GIVEN WITH THE SEED: the statements are not yours to turn. If you find one false, say at which input.
  Laid BY PROGRAM, IN A SANDBOX (cutbox-rows.mjs): the forced cells as the released guide's own fill.sh prints them over the translation ab45d9d146cb31f7… (all of the seat's roots in one cut). By AI agents, Wed Nov 11 2026. No macro, syntax, notation, axiom, sorry.
-/
import Derived.Test.YtmngaedcckjfoaaChecked
import GoSem.Claim
import GoSem.ClaimJoined
import GoSem.ClaimMapViews
import Derived.JoinedTies
import Derived.KernelRfl
namespace Go.Proofs.Ytmngaedcckjfoaa
/- THE CELL 'sum', in the pinned program and in every row, IS THE sha256 OF THE DUMP (.gsa) THAT YtmngaedcckjfoaaProg.lean LOADS. Nothing in Lean hashes anything: it is a label: what it is worth is what the hold of that sum in a sandbox is worth. -/
noncomputable def Try.pinned : Pinned := { name := "ytmngaedcckjfoaa", sum := "ab45d9d146cb31f790e09c347f99effd7fa25a956ddeec44e6b07f00bc43d29d", checked := Try.checked }
namespace Rows
def none {H : Type} : Left H := { results := [], args := [] }

/-- 'treadmilllaw22.CreditBounds': WHATEVER THE INPUT: true; the input reads as it did. -/
def creditBoundsSpec : ChangeSpec := { name := "creditBounds", fn := fun _ => fun
  | [d1, d2] => { results := [.lit (.bool true)], args := [d1, d2] }
  | _ => none }
def creditBoundsRow : OpenClaim := { program := "ytmngaedcckjfoaa", sum := "ab45d9d146cb31f790e09c347f99effd7fa25a956ddeec44e6b07f00bc43d29d", func := "treadmill/treadmilllaw22.CreditBounds", spec := "creditBounds", unfollowed := true, recurses := true, named := ["math/bits.divideError", "math/bits.overflowError"], apart := false }
def CreditBoundsSaid : Prop := creditBoundsRow.holds Try.pinned (OpenSpec.ofChange creditBoundsSpec)

/-- ITS FALSE NEIGHBOUR: 'it returns false'. Refute it at one input. -/
def creditBoundsWrong : ChangeSpec := { name := "creditBounds", fn := fun _ => fun
  | [d1, d2] => { results := [.lit (.bool false)], args := [d1, d2] }
  | _ => none }
def CreditBoundsWrongFalsely : Prop := creditBoundsRow.holds Try.pinned (OpenSpec.ofChange creditBoundsWrong)

/-- 'treadmilllaw22.CreditPays': WHATEVER THE INPUT: true; the input reads as it did. -/
def creditPaysSpec : ChangeSpec := { name := "creditPays", fn := fun _ => fun
  | [d1, d2] => { results := [.lit (.bool true)], args := [d1, d2] }
  | _ => none }
def creditPaysRow : OpenClaim := { program := "ytmngaedcckjfoaa", sum := "ab45d9d146cb31f790e09c347f99effd7fa25a956ddeec44e6b07f00bc43d29d", func := "treadmill/treadmilllaw22.CreditPays", spec := "creditPays", unfollowed := true, recurses := true, named := ["math/bits.divideError", "math/bits.overflowError"], apart := false }
def CreditPaysSaid : Prop := creditPaysRow.holds Try.pinned (OpenSpec.ofChange creditPaysSpec)

/-- ITS FALSE NEIGHBOUR: 'it returns false'. Refute it at one input. -/
def creditPaysWrong : ChangeSpec := { name := "creditPays", fn := fun _ => fun
  | [d1, d2] => { results := [.lit (.bool false)], args := [d1, d2] }
  | _ => none }
def CreditPaysWrongFalsely : Prop := creditPaysRow.holds Try.pinned (OpenSpec.ofChange creditPaysWrong)

/-- 'treadmilllaw22.CreditApart': WHATEVER THE INPUT: true; the input reads as it did. -/
def creditApartSpec : ChangeSpec := { name := "creditApart", fn := fun _ => fun
  | [d1, d2, d3] => { results := [.lit (.bool true)], args := [d1, d2, d3] }
  | _ => none }
def creditApartRow : OpenClaim := { program := "ytmngaedcckjfoaa", sum := "ab45d9d146cb31f790e09c347f99effd7fa25a956ddeec44e6b07f00bc43d29d", func := "treadmill/treadmilllaw22.CreditApart", spec := "creditApart", unfollowed := true, recurses := true, named := ["math/bits.divideError", "math/bits.overflowError"], apart := false }
def CreditApartSaid : Prop := creditApartRow.holds Try.pinned (OpenSpec.ofChange creditApartSpec)

/-- ITS FALSE NEIGHBOUR: 'it returns false'. Refute it at one input. -/
def creditApartWrong : ChangeSpec := { name := "creditApart", fn := fun _ => fun
  | [d1, d2, d3] => { results := [.lit (.bool false)], args := [d1, d2, d3] }
  | _ => none }
def CreditApartWrongFalsely : Prop := creditApartRow.holds Try.pinned (OpenSpec.ofChange creditApartWrong)

/-- 'treadmilllaw27.SchedPlays': WHATEVER THE INPUT: true; the input reads as it did. -/
def schedPlaysSpec : ChangeSpec := { name := "schedPlays", fn := fun _ => fun
  | [d1, d2] => { results := [.lit (.bool true)], args := [d1, d2] }
  | _ => none }
def schedPlaysRow : OpenClaim := { program := "ytmngaedcckjfoaa", sum := "ab45d9d146cb31f790e09c347f99effd7fa25a956ddeec44e6b07f00bc43d29d", func := "treadmill/treadmilllaw27.SchedPlays", spec := "schedPlays", unfollowed := true, recurses := true, apart := false }
def SchedPlaysSaid : Prop := schedPlaysRow.holds Try.pinned (OpenSpec.ofChange schedPlaysSpec)

/-- ITS FALSE NEIGHBOUR: 'it returns false'. Refute it at one input. -/
def schedPlaysWrong : ChangeSpec := { name := "schedPlays", fn := fun _ => fun
  | [d1, d2] => { results := [.lit (.bool false)], args := [d1, d2] }
  | _ => none }
def SchedPlaysWrongFalsely : Prop := schedPlaysRow.holds Try.pinned (OpenSpec.ofChange schedPlaysWrong)

/-- 'treadmilllaw27.SchedOnce': WHATEVER THE INPUT: true; the input reads as it did. -/
def schedOnceSpec : ChangeSpec := { name := "schedOnce", fn := fun _ => fun
  | [d1, d2, d3] => { results := [.lit (.bool true)], args := [d1, d2, d3] }
  | _ => none }
def schedOnceRow : OpenClaim := { program := "ytmngaedcckjfoaa", sum := "ab45d9d146cb31f790e09c347f99effd7fa25a956ddeec44e6b07f00bc43d29d", func := "treadmill/treadmilllaw27.SchedOnce", spec := "schedOnce", unfollowed := true, recurses := true, apart := false }
def SchedOnceSaid : Prop := schedOnceRow.holds Try.pinned (OpenSpec.ofChange schedOnceSpec)

/-- ITS FALSE NEIGHBOUR: 'it returns false'. Refute it at one input. -/
def schedOnceWrong : ChangeSpec := { name := "schedOnce", fn := fun _ => fun
  | [d1, d2, d3] => { results := [.lit (.bool false)], args := [d1, d2, d3] }
  | _ => none }
def SchedOnceWrongFalsely : Prop := schedOnceRow.holds Try.pinned (OpenSpec.ofChange schedOnceWrong)

/-- 'treadmilllaw10.RingPlays': WHATEVER THE INPUT: true; the input reads as it did. -/
def ringPlaysSpec : ChangeSpec := { name := "ringPlays", fn := fun _ => fun
  | [d] => { results := [.lit (.bool true)], args := [d] }
  | _ => none }
def ringPlaysRow : OpenClaim := { program := "ytmngaedcckjfoaa", sum := "ab45d9d146cb31f790e09c347f99effd7fa25a956ddeec44e6b07f00bc43d29d", func := "treadmill/treadmilllaw10.RingPlays", spec := "ringPlays", apart := false }
def RingPlaysSaid : Prop := ringPlaysRow.holds Try.pinned (OpenSpec.ofChange ringPlaysSpec)

/-- ITS FALSE NEIGHBOUR: 'it returns false'. Refute it at one input. -/
def ringPlaysWrong : ChangeSpec := { name := "ringPlays", fn := fun _ => fun
  | [d] => { results := [.lit (.bool false)], args := [d] }
  | _ => none }
def RingPlaysWrongFalsely : Prop := ringPlaysRow.holds Try.pinned (OpenSpec.ofChange ringPlaysWrong)

/-- 'treadmilllaw11.QueuePlays': WHATEVER THE INPUT: true; the input reads as it did. -/
def queuePlaysSpec : ChangeSpec := { name := "queuePlays", fn := fun _ => fun
  | [d] => { results := [.lit (.bool true)], args := [d] }
  | _ => none }
def queuePlaysRow : OpenClaim := { program := "ytmngaedcckjfoaa", sum := "ab45d9d146cb31f790e09c347f99effd7fa25a956ddeec44e6b07f00bc43d29d", func := "treadmill/treadmilllaw11.QueuePlays", spec := "queuePlays", apart := false }
def QueuePlaysSaid : Prop := queuePlaysRow.holds Try.pinned (OpenSpec.ofChange queuePlaysSpec)

/-- ITS FALSE NEIGHBOUR: 'it returns false'. Refute it at one input. -/
def queuePlaysWrong : ChangeSpec := { name := "queuePlays", fn := fun _ => fun
  | [d] => { results := [.lit (.bool false)], args := [d] }
  | _ => none }
def QueuePlaysWrongFalsely : Prop := queuePlaysRow.holds Try.pinned (OpenSpec.ofChange queuePlaysWrong)

/-- 'treadmilllaw8.CentralDels': WHATEVER THE INPUT: true; the input reads as it did. -/
def centralDelsSpec : ChangeSpec := { name := "centralDels", fn := fun _ => fun
  | [d1, d2, d3, d4] => { results := [.lit (.bool true)], args := [d1, d2, d3, d4] }
  | _ => none }
def centralDelsRow : OpenClaim := { program := "ytmngaedcckjfoaa", sum := "ab45d9d146cb31f790e09c347f99effd7fa25a956ddeec44e6b07f00bc43d29d", func := "treadmill/treadmilllaw8.CentralDels", spec := "centralDels", apart := false }
def CentralDelsSaid : Prop := centralDelsRow.holds Try.pinned (OpenSpec.ofChange centralDelsSpec)

/-- ITS FALSE NEIGHBOUR: 'it returns false'. Refute it at one input. -/
def centralDelsWrong : ChangeSpec := { name := "centralDels", fn := fun _ => fun
  | [d1, d2, d3, d4] => { results := [.lit (.bool false)], args := [d1, d2, d3, d4] }
  | _ => none }
def CentralDelsWrongFalsely : Prop := centralDelsRow.holds Try.pinned (OpenSpec.ofChange centralDelsWrong)

/-- 'treadmilllaw8.CentralPlays': WHATEVER THE INPUT: true; the input reads as it did. -/
def centralPlaysSpec : ChangeSpec := { name := "centralPlays", fn := fun _ => fun
  | [d] => { results := [.lit (.bool true)], args := [d] }
  | _ => none }
def centralPlaysRow : OpenClaim := { program := "ytmngaedcckjfoaa", sum := "ab45d9d146cb31f790e09c347f99effd7fa25a956ddeec44e6b07f00bc43d29d", func := "treadmill/treadmilllaw8.CentralPlays", spec := "centralPlays", apart := false }
def CentralPlaysSaid : Prop := centralPlaysRow.holds Try.pinned (OpenSpec.ofChange centralPlaysSpec)

/-- ITS FALSE NEIGHBOUR: 'it returns false'. Refute it at one input. -/
def centralPlaysWrong : ChangeSpec := { name := "centralPlays", fn := fun _ => fun
  | [d] => { results := [.lit (.bool false)], args := [d] }
  | _ => none }
def CentralPlaysWrongFalsely : Prop := centralPlaysRow.holds Try.pinned (OpenSpec.ofChange centralPlaysWrong)

/-- 'treadmilllaw8.CentralOnce': WHATEVER THE INPUT: true; the input reads as it did. -/
def centralOnceSpec : ChangeSpec := { name := "centralOnce", fn := fun _ => fun
  | [d1, d2] => { results := [.lit (.bool true)], args := [d1, d2] }
  | _ => none }
def centralOnceRow : OpenClaim := { program := "ytmngaedcckjfoaa", sum := "ab45d9d146cb31f790e09c347f99effd7fa25a956ddeec44e6b07f00bc43d29d", func := "treadmill/treadmilllaw8.CentralOnce", spec := "centralOnce", apart := false }
def CentralOnceSaid : Prop := centralOnceRow.holds Try.pinned (OpenSpec.ofChange centralOnceSpec)

/-- ITS FALSE NEIGHBOUR: 'it returns false'. Refute it at one input. -/
def centralOnceWrong : ChangeSpec := { name := "centralOnce", fn := fun _ => fun
  | [d1, d2] => { results := [.lit (.bool false)], args := [d1, d2] }
  | _ => none }
def CentralOnceWrongFalsely : Prop := centralOnceRow.holds Try.pinned (OpenSpec.ofChange centralOnceWrong)

/-- 'treadmilllaw8.CentralTurns': WHATEVER THE INPUT: true; the input reads as it did. -/
def centralTurnsSpec : ChangeSpec := { name := "centralTurns", fn := fun _ => fun
  | [d1, d2, d3] => { results := [.lit (.bool true)], args := [d1, d2, d3] }
  | _ => none }
def centralTurnsRow : OpenClaim := { program := "ytmngaedcckjfoaa", sum := "ab45d9d146cb31f790e09c347f99effd7fa25a956ddeec44e6b07f00bc43d29d", func := "treadmill/treadmilllaw8.CentralTurns", spec := "centralTurns", apart := false }
def CentralTurnsSaid : Prop := centralTurnsRow.holds Try.pinned (OpenSpec.ofChange centralTurnsSpec)

/-- ITS FALSE NEIGHBOUR: 'it returns false'. Refute it at one input. -/
def centralTurnsWrong : ChangeSpec := { name := "centralTurns", fn := fun _ => fun
  | [d1, d2, d3] => { results := [.lit (.bool false)], args := [d1, d2, d3] }
  | _ => none }
def CentralTurnsWrongFalsely : Prop := centralTurnsRow.holds Try.pinned (OpenSpec.ofChange centralTurnsWrong)

/-- 'treadmilllaw10.RingDels': WHATEVER THE INPUT: true; the input reads as it did. -/
def ringDelsSpec : ChangeSpec := { name := "ringDels", fn := fun _ => fun
  | [d1, d2] => { results := [.lit (.bool true)], args := [d1, d2] }
  | _ => none }
def ringDelsRow : OpenClaim := { program := "ytmngaedcckjfoaa", sum := "ab45d9d146cb31f790e09c347f99effd7fa25a956ddeec44e6b07f00bc43d29d", func := "treadmill/treadmilllaw10.RingDels", spec := "ringDels", apart := false }
def RingDelsSaid : Prop := ringDelsRow.holds Try.pinned (OpenSpec.ofChange ringDelsSpec)

/-- ITS FALSE NEIGHBOUR: 'it returns false'. Refute it at one input. -/
def ringDelsWrong : ChangeSpec := { name := "ringDels", fn := fun _ => fun
  | [d1, d2] => { results := [.lit (.bool false)], args := [d1, d2] }
  | _ => none }
def RingDelsWrongFalsely : Prop := ringDelsRow.holds Try.pinned (OpenSpec.ofChange ringDelsWrong)

/- THE SECOND FORM. 'bulk': how many values and letters a reading holds, each counted each time it is reached (what is shared counts as often as it is met; a slice's spare places count too). A statement '..UptoSaid' is the law's where the arguments, and the package variables that the reading takes, are together of bulk at most 1048576: NARROWER than '..Said'. Prove '..Said' where nothing that the law and all that it calls make is longer than what came in: it says more and counts as full. Else prove '..UptoSaid'. A law counts once. -/
mutual
def uptoBulk {H : Type} : DataW H → Nat
  | .lit (.string bytes) => bytes.length + 1
  | .lit _ => 1
  | .nil => 1
  | .ptr d => uptoBulk d + 1
  | .slice elems spare => uptoBulkAll elems + uptoBulkAll spare + 1
  | .agg parts => uptoBulkAll parts + 1
  | .iface _ d => uptoBulk d + 1
  | .map entries => uptoBulkEntries entries + 1
  | .held _ => 1
def uptoBulkAll {H : Type} : List (DataW H) → Nat
  | [] => 0
  | d :: r => uptoBulk d + uptoBulkAll r
def uptoBulkEntries {H : Type} : List (Lit × DataW H) → Nat
  | [] => 0
  | x :: r => uptoBulkEntry x + uptoBulkEntries r
def uptoBulkEntry {H : Type} : Lit × DataW H → Nat
  | (.string bytes, d) => bytes.length + uptoBulk d + 1
  | (_, d) => uptoBulk d + 1
 end
def uptoSmall : (H : Type) → List (DataW H) → Bool := fun _ ds => decide (uptoBulkAll ds ≤ 1048576)
def OpenSpec.upto (s : _root_.Go.ChangeSpec) : _root_.Go.OpenSpec := { _root_.Go.OpenSpec.ofChange s with cond := some uptoSmall }

/-- 'treadmilllaw22.CreditBounds', WHERE WHAT IT READS IS OF BULK AT MOST 1048576: true; the input reads as it did. -/
def creditBoundsUptoRow : OpenClaim := { program := "ytmngaedcckjfoaa", sum := "ab45d9d146cb31f790e09c347f99effd7fa25a956ddeec44e6b07f00bc43d29d", func := "treadmill/treadmilllaw22.CreditBounds", spec := "creditBounds", unfollowed := true, recurses := true, named := ["math/bits.divideError", "math/bits.overflowError"], apart := false, narrowed := true }
def CreditBoundsUptoSaid : Prop := creditBoundsUptoRow.holds Try.pinned (OpenSpec.upto creditBoundsSpec)

/-- 'treadmilllaw22.CreditPays', WHERE WHAT IT READS IS OF BULK AT MOST 1048576: true; the input reads as it did. -/
def creditPaysUptoRow : OpenClaim := { program := "ytmngaedcckjfoaa", sum := "ab45d9d146cb31f790e09c347f99effd7fa25a956ddeec44e6b07f00bc43d29d", func := "treadmill/treadmilllaw22.CreditPays", spec := "creditPays", unfollowed := true, recurses := true, named := ["math/bits.divideError", "math/bits.overflowError"], apart := false, narrowed := true }
def CreditPaysUptoSaid : Prop := creditPaysUptoRow.holds Try.pinned (OpenSpec.upto creditPaysSpec)

/-- 'treadmilllaw22.CreditApart', WHERE WHAT IT READS IS OF BULK AT MOST 1048576: true; the input reads as it did. -/
def creditApartUptoRow : OpenClaim := { program := "ytmngaedcckjfoaa", sum := "ab45d9d146cb31f790e09c347f99effd7fa25a956ddeec44e6b07f00bc43d29d", func := "treadmill/treadmilllaw22.CreditApart", spec := "creditApart", unfollowed := true, recurses := true, named := ["math/bits.divideError", "math/bits.overflowError"], apart := false, narrowed := true }
def CreditApartUptoSaid : Prop := creditApartUptoRow.holds Try.pinned (OpenSpec.upto creditApartSpec)

/-- 'treadmilllaw27.SchedPlays', WHERE WHAT IT READS IS OF BULK AT MOST 1048576: true; the input reads as it did. -/
def schedPlaysUptoRow : OpenClaim := { program := "ytmngaedcckjfoaa", sum := "ab45d9d146cb31f790e09c347f99effd7fa25a956ddeec44e6b07f00bc43d29d", func := "treadmill/treadmilllaw27.SchedPlays", spec := "schedPlays", unfollowed := true, recurses := true, apart := false, narrowed := true }
def SchedPlaysUptoSaid : Prop := schedPlaysUptoRow.holds Try.pinned (OpenSpec.upto schedPlaysSpec)

/-- 'treadmilllaw27.SchedOnce', WHERE WHAT IT READS IS OF BULK AT MOST 1048576: true; the input reads as it did. -/
def schedOnceUptoRow : OpenClaim := { program := "ytmngaedcckjfoaa", sum := "ab45d9d146cb31f790e09c347f99effd7fa25a956ddeec44e6b07f00bc43d29d", func := "treadmill/treadmilllaw27.SchedOnce", spec := "schedOnce", unfollowed := true, recurses := true, apart := false, narrowed := true }
def SchedOnceUptoSaid : Prop := schedOnceUptoRow.holds Try.pinned (OpenSpec.upto schedOnceSpec)

/-- 'treadmilllaw10.RingPlays', WHERE WHAT IT READS IS OF BULK AT MOST 1048576: true; the input reads as it did. -/
def ringPlaysUptoRow : OpenClaim := { program := "ytmngaedcckjfoaa", sum := "ab45d9d146cb31f790e09c347f99effd7fa25a956ddeec44e6b07f00bc43d29d", func := "treadmill/treadmilllaw10.RingPlays", spec := "ringPlays", apart := false, narrowed := true }
def RingPlaysUptoSaid : Prop := ringPlaysUptoRow.holds Try.pinned (OpenSpec.upto ringPlaysSpec)

/-- 'treadmilllaw11.QueuePlays', WHERE WHAT IT READS IS OF BULK AT MOST 1048576: true; the input reads as it did. -/
def queuePlaysUptoRow : OpenClaim := { program := "ytmngaedcckjfoaa", sum := "ab45d9d146cb31f790e09c347f99effd7fa25a956ddeec44e6b07f00bc43d29d", func := "treadmill/treadmilllaw11.QueuePlays", spec := "queuePlays", apart := false, narrowed := true }
def QueuePlaysUptoSaid : Prop := queuePlaysUptoRow.holds Try.pinned (OpenSpec.upto queuePlaysSpec)

/-- 'treadmilllaw8.CentralDels', WHERE WHAT IT READS IS OF BULK AT MOST 1048576: true; the input reads as it did. -/
def centralDelsUptoRow : OpenClaim := { program := "ytmngaedcckjfoaa", sum := "ab45d9d146cb31f790e09c347f99effd7fa25a956ddeec44e6b07f00bc43d29d", func := "treadmill/treadmilllaw8.CentralDels", spec := "centralDels", apart := false, narrowed := true }
def CentralDelsUptoSaid : Prop := centralDelsUptoRow.holds Try.pinned (OpenSpec.upto centralDelsSpec)

/-- 'treadmilllaw8.CentralPlays', WHERE WHAT IT READS IS OF BULK AT MOST 1048576: true; the input reads as it did. -/
def centralPlaysUptoRow : OpenClaim := { program := "ytmngaedcckjfoaa", sum := "ab45d9d146cb31f790e09c347f99effd7fa25a956ddeec44e6b07f00bc43d29d", func := "treadmill/treadmilllaw8.CentralPlays", spec := "centralPlays", apart := false, narrowed := true }
def CentralPlaysUptoSaid : Prop := centralPlaysUptoRow.holds Try.pinned (OpenSpec.upto centralPlaysSpec)

/-- 'treadmilllaw8.CentralOnce', WHERE WHAT IT READS IS OF BULK AT MOST 1048576: true; the input reads as it did. -/
def centralOnceUptoRow : OpenClaim := { program := "ytmngaedcckjfoaa", sum := "ab45d9d146cb31f790e09c347f99effd7fa25a956ddeec44e6b07f00bc43d29d", func := "treadmill/treadmilllaw8.CentralOnce", spec := "centralOnce", apart := false, narrowed := true }
def CentralOnceUptoSaid : Prop := centralOnceUptoRow.holds Try.pinned (OpenSpec.upto centralOnceSpec)

/-- 'treadmilllaw8.CentralTurns', WHERE WHAT IT READS IS OF BULK AT MOST 1048576: true; the input reads as it did. -/
def centralTurnsUptoRow : OpenClaim := { program := "ytmngaedcckjfoaa", sum := "ab45d9d146cb31f790e09c347f99effd7fa25a956ddeec44e6b07f00bc43d29d", func := "treadmill/treadmilllaw8.CentralTurns", spec := "centralTurns", apart := false, narrowed := true }
def CentralTurnsUptoSaid : Prop := centralTurnsUptoRow.holds Try.pinned (OpenSpec.upto centralTurnsSpec)

/-- 'treadmilllaw10.RingDels', WHERE WHAT IT READS IS OF BULK AT MOST 1048576: true; the input reads as it did. -/
def ringDelsUptoRow : OpenClaim := { program := "ytmngaedcckjfoaa", sum := "ab45d9d146cb31f790e09c347f99effd7fa25a956ddeec44e6b07f00bc43d29d", func := "treadmill/treadmilllaw10.RingDels", spec := "ringDels", apart := false, narrowed := true }
def RingDelsUptoSaid : Prop := ringDelsUptoRow.holds Try.pinned (OpenSpec.upto ringDelsSpec)

end Rows
end Go.Proofs.Ytmngaedcckjfoaa
