/-
  No cell of these rows narrows 'for every input' (looked for: loops, veiled, ifaces, maps, wideKeys, modest, calm, conditions, laid).
  DERIVED. THE GIVEN ROWS OF THIS SEAT. 12 by the template 'for every input the law returns true; each argument reads behind the call as it read before'; 0 by the template 'total and deterministic' (their statements: YtgmcimhlkccfdaaTotals.lean).
  GIVEN WITH THE SEED: the statements are not yours to turn. If you find one false, say at which input.
  Laid BY PROGRAM, IN A SANDBOX (cutbox-rows.mjs): the forced cells as the released guide's own fill.sh prints them over the translation 051a7fadbfb1c403… (all of the seat's roots in one cut). By AI agents, Wed Nov 11 2026. No macro, syntax, notation, axiom, sorry.
-/
import Derived.Test.YtgmcimhlkccfdaaChecked
import GoSem.Claim
import GoSem.ClaimJoined
import GoSem.ClaimMapViews
import Derived.JoinedTies
import Derived.KernelRfl
namespace Go.Proofs.Ytgmcimhlkccfdaa
/- THE CELL 'sum', in the pinned program and in every row, IS THE sha256 OF THE DUMP (.gsa) THAT YtgmcimhlkccfdaaProg.lean LOADS. Nothing in Lean hashes anything: it is a label: what it is worth is what the hold of that sum in a sandbox is worth. -/
noncomputable def Try.pinned : Pinned := { name := "ytgmcimhlkccfdaa", sum := "051a7fadbfb1c403fe4ffea5e2aadd042621d8bec7ebb66a61c998a1bc27bf98", checked := Try.checked }
namespace Rows
def none {H : Type} : Left H := { results := [], args := [] }

/-- 'treadmilllaw17.BufferPlays': WHATEVER THE INPUT: true; the input reads as it did. -/
def bufferPlaysSpec : ChangeSpec := { name := "bufferPlays", fn := fun _ => fun
  | [d] => { results := [.lit (.bool true)], args := [d] }
  | _ => none }
def bufferPlaysRow : OpenClaim := { program := "ytgmcimhlkccfdaa", sum := "051a7fadbfb1c403fe4ffea5e2aadd042621d8bec7ebb66a61c998a1bc27bf98", func := "treadmill/treadmilllaw17.BufferPlays", spec := "bufferPlays", apart := false }
def BufferPlaysSaid : Prop := bufferPlaysRow.holds Try.pinned (OpenSpec.ofChange bufferPlaysSpec)

/-- ITS FALSE NEIGHBOUR: 'it returns false'. Refute it at one input. -/
def bufferPlaysWrong : ChangeSpec := { name := "bufferPlays", fn := fun _ => fun
  | [d] => { results := [.lit (.bool false)], args := [d] }
  | _ => none }
def BufferPlaysWrongFalsely : Prop := bufferPlaysRow.holds Try.pinned (OpenSpec.ofChange bufferPlaysWrong)

/-- 'treadmilllaw17.BufferStack': WHATEVER THE INPUT: true; the input reads as it did. -/
def bufferStackSpec : ChangeSpec := { name := "bufferStack", fn := fun _ => fun
  | [d1, d2] => { results := [.lit (.bool true)], args := [d1, d2] }
  | _ => none }
def bufferStackRow : OpenClaim := { program := "ytgmcimhlkccfdaa", sum := "051a7fadbfb1c403fe4ffea5e2aadd042621d8bec7ebb66a61c998a1bc27bf98", func := "treadmill/treadmilllaw17.BufferStack", spec := "bufferStack", apart := false }
def BufferStackSaid : Prop := bufferStackRow.holds Try.pinned (OpenSpec.ofChange bufferStackSpec)

/-- ITS FALSE NEIGHBOUR: 'it returns false'. Refute it at one input. -/
def bufferStackWrong : ChangeSpec := { name := "bufferStack", fn := fun _ => fun
  | [d1, d2] => { results := [.lit (.bool false)], args := [d1, d2] }
  | _ => none }
def BufferStackWrongFalsely : Prop := bufferStackRow.holds Try.pinned (OpenSpec.ofChange bufferStackWrong)

/-- 'treadmilllaw17.BufferHalves': WHATEVER THE INPUT: true; the input reads as it did. -/
def bufferHalvesSpec : ChangeSpec := { name := "bufferHalves", fn := fun _ => fun
  | [d] => { results := [.lit (.bool true)], args := [d] }
  | _ => none }
def bufferHalvesRow : OpenClaim := { program := "ytgmcimhlkccfdaa", sum := "051a7fadbfb1c403fe4ffea5e2aadd042621d8bec7ebb66a61c998a1bc27bf98", func := "treadmill/treadmilllaw17.BufferHalves", spec := "bufferHalves", apart := false }
def BufferHalvesSaid : Prop := bufferHalvesRow.holds Try.pinned (OpenSpec.ofChange bufferHalvesSpec)

/-- ITS FALSE NEIGHBOUR: 'it returns false'. Refute it at one input. -/
def bufferHalvesWrong : ChangeSpec := { name := "bufferHalves", fn := fun _ => fun
  | [d] => { results := [.lit (.bool false)], args := [d] }
  | _ => none }
def BufferHalvesWrongFalsely : Prop := bufferHalvesRow.holds Try.pinned (OpenSpec.ofChange bufferHalvesWrong)

/-- 'treadmilllaw19.BarrierPlays': WHATEVER THE INPUT: true; the input reads as it did. -/
def barrierPlaysSpec : ChangeSpec := { name := "barrierPlays", fn := fun _ => fun
  | [d1, d2] => { results := [.lit (.bool true)], args := [d1, d2] }
  | _ => none }
def barrierPlaysRow : OpenClaim := { program := "ytgmcimhlkccfdaa", sum := "051a7fadbfb1c403fe4ffea5e2aadd042621d8bec7ebb66a61c998a1bc27bf98", func := "treadmill/treadmilllaw19.BarrierPlays", spec := "barrierPlays", apart := false }
def BarrierPlaysSaid : Prop := barrierPlaysRow.holds Try.pinned (OpenSpec.ofChange barrierPlaysSpec)

/-- ITS FALSE NEIGHBOUR: 'it returns false'. Refute it at one input. -/
def barrierPlaysWrong : ChangeSpec := { name := "barrierPlays", fn := fun _ => fun
  | [d1, d2] => { results := [.lit (.bool false)], args := [d1, d2] }
  | _ => none }
def BarrierPlaysWrongFalsely : Prop := barrierPlaysRow.holds Try.pinned (OpenSpec.ofChange barrierPlaysWrong)

/-- 'treadmilllaw19.BarrierTells': WHATEVER THE INPUT: true; the input reads as it did. -/
def barrierTellsSpec : ChangeSpec := { name := "barrierTells", fn := fun _ => fun
  | [d] => { results := [.lit (.bool true)], args := [d] }
  | _ => none }
def barrierTellsRow : OpenClaim := { program := "ytgmcimhlkccfdaa", sum := "051a7fadbfb1c403fe4ffea5e2aadd042621d8bec7ebb66a61c998a1bc27bf98", func := "treadmill/treadmilllaw19.BarrierTells", spec := "barrierTells", apart := false }
def BarrierTellsSaid : Prop := barrierTellsRow.holds Try.pinned (OpenSpec.ofChange barrierTellsSpec)

/-- ITS FALSE NEIGHBOUR: 'it returns false'. Refute it at one input. -/
def barrierTellsWrong : ChangeSpec := { name := "barrierTells", fn := fun _ => fun
  | [d] => { results := [.lit (.bool false)], args := [d] }
  | _ => none }
def BarrierTellsWrongFalsely : Prop := barrierTellsRow.holds Try.pinned (OpenSpec.ofChange barrierTellsWrong)

/-- 'treadmilllaw19.BarrierFulls': WHATEVER THE INPUT: true; the input reads as it did. -/
def barrierFullsSpec : ChangeSpec := { name := "barrierFulls", fn := fun _ => fun
  | [d] => { results := [.lit (.bool true)], args := [d] }
  | _ => none }
def barrierFullsRow : OpenClaim := { program := "ytgmcimhlkccfdaa", sum := "051a7fadbfb1c403fe4ffea5e2aadd042621d8bec7ebb66a61c998a1bc27bf98", func := "treadmill/treadmilllaw19.BarrierFulls", spec := "barrierFulls", apart := false }
def BarrierFullsSaid : Prop := barrierFullsRow.holds Try.pinned (OpenSpec.ofChange barrierFullsSpec)

/-- ITS FALSE NEIGHBOUR: 'it returns false'. Refute it at one input. -/
def barrierFullsWrong : ChangeSpec := { name := "barrierFulls", fn := fun _ => fun
  | [d] => { results := [.lit (.bool false)], args := [d] }
  | _ => none }
def BarrierFullsWrongFalsely : Prop := barrierFullsRow.holds Try.pinned (OpenSpec.ofChange barrierFullsWrong)

/-- 'treadmilllaw20.ScanChunks': WHATEVER THE INPUT: true; the input reads as it did. -/
def scanChunksSpec : ChangeSpec := { name := "scanChunks", fn := fun _ => fun
  | [d1, d2] => { results := [.lit (.bool true)], args := [d1, d2] }
  | _ => none }
def scanChunksRow : OpenClaim := { program := "ytgmcimhlkccfdaa", sum := "051a7fadbfb1c403fe4ffea5e2aadd042621d8bec7ebb66a61c998a1bc27bf98", func := "treadmill/treadmilllaw20.ScanChunks", spec := "scanChunks", unfollowed := true, recurses := true, apart := false }
def ScanChunksSaid : Prop := scanChunksRow.holds Try.pinned (OpenSpec.ofChange scanChunksSpec)

/-- ITS FALSE NEIGHBOUR: 'it returns false'. Refute it at one input. -/
def scanChunksWrong : ChangeSpec := { name := "scanChunks", fn := fun _ => fun
  | [d1, d2] => { results := [.lit (.bool false)], args := [d1, d2] }
  | _ => none }
def ScanChunksWrongFalsely : Prop := scanChunksRow.holds Try.pinned (OpenSpec.ofChange scanChunksWrong)

/-- 'treadmilllaw20.ScanNobody': WHATEVER THE INPUT: true; the input reads as it did. -/
def scanNobodySpec : ChangeSpec := { name := "scanNobody", fn := fun _ => fun
  | [d1, d2] => { results := [.lit (.bool true)], args := [d1, d2] }
  | _ => none }
def scanNobodyRow : OpenClaim := { program := "ytgmcimhlkccfdaa", sum := "051a7fadbfb1c403fe4ffea5e2aadd042621d8bec7ebb66a61c998a1bc27bf98", func := "treadmill/treadmilllaw20.ScanNobody", spec := "scanNobody", unfollowed := true, recurses := true, apart := false }
def ScanNobodySaid : Prop := scanNobodyRow.holds Try.pinned (OpenSpec.ofChange scanNobodySpec)

/-- ITS FALSE NEIGHBOUR: 'it returns false'. Refute it at one input. -/
def scanNobodyWrong : ChangeSpec := { name := "scanNobody", fn := fun _ => fun
  | [d1, d2] => { results := [.lit (.bool false)], args := [d1, d2] }
  | _ => none }
def ScanNobodyWrongFalsely : Prop := scanNobodyRow.holds Try.pinned (OpenSpec.ofChange scanNobodyWrong)

/-- 'treadmilllaw20.ScanApart': WHATEVER THE INPUT: true; the input reads as it did. -/
def scanApartSpec : ChangeSpec := { name := "scanApart", fn := fun _ => fun
  | [d1, d2, d3] => { results := [.lit (.bool true)], args := [d1, d2, d3] }
  | _ => none }
def scanApartRow : OpenClaim := { program := "ytgmcimhlkccfdaa", sum := "051a7fadbfb1c403fe4ffea5e2aadd042621d8bec7ebb66a61c998a1bc27bf98", func := "treadmill/treadmilllaw20.ScanApart", spec := "scanApart", unfollowed := true, recurses := true, apart := false }
def ScanApartSaid : Prop := scanApartRow.holds Try.pinned (OpenSpec.ofChange scanApartSpec)

/-- ITS FALSE NEIGHBOUR: 'it returns false'. Refute it at one input. -/
def scanApartWrong : ChangeSpec := { name := "scanApart", fn := fun _ => fun
  | [d1, d2, d3] => { results := [.lit (.bool false)], args := [d1, d2, d3] }
  | _ => none }
def ScanApartWrongFalsely : Prop := scanApartRow.holds Try.pinned (OpenSpec.ofChange scanApartWrong)

/-- 'treadmilllaw11.QueueDels': WHATEVER THE INPUT: true; the input reads as it did. -/
def queueDelsSpec : ChangeSpec := { name := "queueDels", fn := fun _ => fun
  | [d1, d2] => { results := [.lit (.bool true)], args := [d1, d2] }
  | _ => none }
def queueDelsRow : OpenClaim := { program := "ytgmcimhlkccfdaa", sum := "051a7fadbfb1c403fe4ffea5e2aadd042621d8bec7ebb66a61c998a1bc27bf98", func := "treadmill/treadmilllaw11.QueueDels", spec := "queueDels", apart := false }
def QueueDelsSaid : Prop := queueDelsRow.holds Try.pinned (OpenSpec.ofChange queueDelsSpec)

/-- ITS FALSE NEIGHBOUR: 'it returns false'. Refute it at one input. -/
def queueDelsWrong : ChangeSpec := { name := "queueDels", fn := fun _ => fun
  | [d1, d2] => { results := [.lit (.bool false)], args := [d1, d2] }
  | _ => none }
def QueueDelsWrongFalsely : Prop := queueDelsRow.holds Try.pinned (OpenSpec.ofChange queueDelsWrong)

/-- 'treadmilllaw11.QueuePlays': WHATEVER THE INPUT: true; the input reads as it did. -/
def queuePlaysSpec : ChangeSpec := { name := "queuePlays", fn := fun _ => fun
  | [d] => { results := [.lit (.bool true)], args := [d] }
  | _ => none }
def queuePlaysRow : OpenClaim := { program := "ytgmcimhlkccfdaa", sum := "051a7fadbfb1c403fe4ffea5e2aadd042621d8bec7ebb66a61c998a1bc27bf98", func := "treadmill/treadmilllaw11.QueuePlays", spec := "queuePlays", apart := false }
def QueuePlaysSaid : Prop := queuePlaysRow.holds Try.pinned (OpenSpec.ofChange queuePlaysSpec)

/-- ITS FALSE NEIGHBOUR: 'it returns false'. Refute it at one input. -/
def queuePlaysWrong : ChangeSpec := { name := "queuePlays", fn := fun _ => fun
  | [d] => { results := [.lit (.bool false)], args := [d] }
  | _ => none }
def QueuePlaysWrongFalsely : Prop := queuePlaysRow.holds Try.pinned (OpenSpec.ofChange queuePlaysWrong)

/-- 'treadmilllaw10.RingPlays': WHATEVER THE INPUT: true; the input reads as it did. -/
def ringPlaysSpec : ChangeSpec := { name := "ringPlays", fn := fun _ => fun
  | [d] => { results := [.lit (.bool true)], args := [d] }
  | _ => none }
def ringPlaysRow : OpenClaim := { program := "ytgmcimhlkccfdaa", sum := "051a7fadbfb1c403fe4ffea5e2aadd042621d8bec7ebb66a61c998a1bc27bf98", func := "treadmill/treadmilllaw10.RingPlays", spec := "ringPlays", apart := false }
def RingPlaysSaid : Prop := ringPlaysRow.holds Try.pinned (OpenSpec.ofChange ringPlaysSpec)

/-- ITS FALSE NEIGHBOUR: 'it returns false'. Refute it at one input. -/
def ringPlaysWrong : ChangeSpec := { name := "ringPlays", fn := fun _ => fun
  | [d] => { results := [.lit (.bool false)], args := [d] }
  | _ => none }
def RingPlaysWrongFalsely : Prop := ringPlaysRow.holds Try.pinned (OpenSpec.ofChange ringPlaysWrong)

/- THE SECOND FORM. 'bulk': how many values and letters a reading holds, each counted each time it is reached (what is shared counts as often as it is met; a slice's spare places count too). A statement '..UptoSaid' is the law's where the arguments, and the package variables that the reading takes, are together of bulk at most 1048576: NARROWER than '..Said'. Prove '..Said' where nothing that the law and all that it calls make is longer than what came in: it says more and counts as full. Else prove '..UptoSaid'. A law counts once. -/
mutual
def uptoBulk {H : Type} : DataW H → Nat
  | .lit (.string bytes) => bytes.length + 1
  | .lit _ => 1
  | .nil => 1
  | .ptr d => uptoBulk d + 1
  | .slice elems spare => uptoBulkAll elems + uptoBulkAll spare + 1
  | .agg parts => uptoBulkAll parts + 1
  | .iface _ d => uptoBulk d + 1
  | .map entries => uptoBulkEntries entries + 1
  | .held _ => 1
def uptoBulkAll {H : Type} : List (DataW H) → Nat
  | [] => 0
  | d :: r => uptoBulk d + uptoBulkAll r
def uptoBulkEntries {H : Type} : List (Lit × DataW H) → Nat
  | [] => 0
  | x :: r => uptoBulkEntry x + uptoBulkEntries r
def uptoBulkEntry {H : Type} : Lit × DataW H → Nat
  | (.string bytes, d) => bytes.length + uptoBulk d + 1
  | (_, d) => uptoBulk d + 1
 end
def uptoSmall : (H : Type) → List (DataW H) → Bool := fun _ ds => decide (uptoBulkAll ds ≤ 1048576)
def OpenSpec.upto (s : _root_.Go.ChangeSpec) : _root_.Go.OpenSpec := { _root_.Go.OpenSpec.ofChange s with cond := some uptoSmall }

/-- 'treadmilllaw17.BufferPlays', WHERE WHAT IT READS IS OF BULK AT MOST 1048576: true; the input reads as it did. -/
def bufferPlaysUptoRow : OpenClaim := { program := "ytgmcimhlkccfdaa", sum := "051a7fadbfb1c403fe4ffea5e2aadd042621d8bec7ebb66a61c998a1bc27bf98", func := "treadmill/treadmilllaw17.BufferPlays", spec := "bufferPlays", apart := false, narrowed := true }
def BufferPlaysUptoSaid : Prop := bufferPlaysUptoRow.holds Try.pinned (OpenSpec.upto bufferPlaysSpec)

/-- 'treadmilllaw17.BufferStack', WHERE WHAT IT READS IS OF BULK AT MOST 1048576: true; the input reads as it did. -/
def bufferStackUptoRow : OpenClaim := { program := "ytgmcimhlkccfdaa", sum := "051a7fadbfb1c403fe4ffea5e2aadd042621d8bec7ebb66a61c998a1bc27bf98", func := "treadmill/treadmilllaw17.BufferStack", spec := "bufferStack", apart := false, narrowed := true }
def BufferStackUptoSaid : Prop := bufferStackUptoRow.holds Try.pinned (OpenSpec.upto bufferStackSpec)

/-- 'treadmilllaw17.BufferHalves', WHERE WHAT IT READS IS OF BULK AT MOST 1048576: true; the input reads as it did. -/
def bufferHalvesUptoRow : OpenClaim := { program := "ytgmcimhlkccfdaa", sum := "051a7fadbfb1c403fe4ffea5e2aadd042621d8bec7ebb66a61c998a1bc27bf98", func := "treadmill/treadmilllaw17.BufferHalves", spec := "bufferHalves", apart := false, narrowed := true }
def BufferHalvesUptoSaid : Prop := bufferHalvesUptoRow.holds Try.pinned (OpenSpec.upto bufferHalvesSpec)

/-- 'treadmilllaw19.BarrierPlays', WHERE WHAT IT READS IS OF BULK AT MOST 1048576: true; the input reads as it did. -/
def barrierPlaysUptoRow : OpenClaim := { program := "ytgmcimhlkccfdaa", sum := "051a7fadbfb1c403fe4ffea5e2aadd042621d8bec7ebb66a61c998a1bc27bf98", func := "treadmill/treadmilllaw19.BarrierPlays", spec := "barrierPlays", apart := false, narrowed := true }
def BarrierPlaysUptoSaid : Prop := barrierPlaysUptoRow.holds Try.pinned (OpenSpec.upto barrierPlaysSpec)

/-- 'treadmilllaw19.BarrierTells', WHERE WHAT IT READS IS OF BULK AT MOST 1048576: true; the input reads as it did. -/
def barrierTellsUptoRow : OpenClaim := { program := "ytgmcimhlkccfdaa", sum := "051a7fadbfb1c403fe4ffea5e2aadd042621d8bec7ebb66a61c998a1bc27bf98", func := "treadmill/treadmilllaw19.BarrierTells", spec := "barrierTells", apart := false, narrowed := true }
def BarrierTellsUptoSaid : Prop := barrierTellsUptoRow.holds Try.pinned (OpenSpec.upto barrierTellsSpec)

/-- 'treadmilllaw19.BarrierFulls', WHERE WHAT IT READS IS OF BULK AT MOST 1048576: true; the input reads as it did. -/
def barrierFullsUptoRow : OpenClaim := { program := "ytgmcimhlkccfdaa", sum := "051a7fadbfb1c403fe4ffea5e2aadd042621d8bec7ebb66a61c998a1bc27bf98", func := "treadmill/treadmilllaw19.BarrierFulls", spec := "barrierFulls", apart := false, narrowed := true }
def BarrierFullsUptoSaid : Prop := barrierFullsUptoRow.holds Try.pinned (OpenSpec.upto barrierFullsSpec)

/-- 'treadmilllaw20.ScanChunks', WHERE WHAT IT READS IS OF BULK AT MOST 1048576: true; the input reads as it did. -/
def scanChunksUptoRow : OpenClaim := { program := "ytgmcimhlkccfdaa", sum := "051a7fadbfb1c403fe4ffea5e2aadd042621d8bec7ebb66a61c998a1bc27bf98", func := "treadmill/treadmilllaw20.ScanChunks", spec := "scanChunks", unfollowed := true, recurses := true, apart := false, narrowed := true }
def ScanChunksUptoSaid : Prop := scanChunksUptoRow.holds Try.pinned (OpenSpec.upto scanChunksSpec)

/-- 'treadmilllaw20.ScanNobody', WHERE WHAT IT READS IS OF BULK AT MOST 1048576: true; the input reads as it did. -/
def scanNobodyUptoRow : OpenClaim := { program := "ytgmcimhlkccfdaa", sum := "051a7fadbfb1c403fe4ffea5e2aadd042621d8bec7ebb66a61c998a1bc27bf98", func := "treadmill/treadmilllaw20.ScanNobody", spec := "scanNobody", unfollowed := true, recurses := true, apart := false, narrowed := true }
def ScanNobodyUptoSaid : Prop := scanNobodyUptoRow.holds Try.pinned (OpenSpec.upto scanNobodySpec)

/-- 'treadmilllaw20.ScanApart', WHERE WHAT IT READS IS OF BULK AT MOST 1048576: true; the input reads as it did. -/
def scanApartUptoRow : OpenClaim := { program := "ytgmcimhlkccfdaa", sum := "051a7fadbfb1c403fe4ffea5e2aadd042621d8bec7ebb66a61c998a1bc27bf98", func := "treadmill/treadmilllaw20.ScanApart", spec := "scanApart", unfollowed := true, recurses := true, apart := false, narrowed := true }
def ScanApartUptoSaid : Prop := scanApartUptoRow.holds Try.pinned (OpenSpec.upto scanApartSpec)

/-- 'treadmilllaw11.QueueDels', WHERE WHAT IT READS IS OF BULK AT MOST 1048576: true; the input reads as it did. -/
def queueDelsUptoRow : OpenClaim := { program := "ytgmcimhlkccfdaa", sum := "051a7fadbfb1c403fe4ffea5e2aadd042621d8bec7ebb66a61c998a1bc27bf98", func := "treadmill/treadmilllaw11.QueueDels", spec := "queueDels", apart := false, narrowed := true }
def QueueDelsUptoSaid : Prop := queueDelsUptoRow.holds Try.pinned (OpenSpec.upto queueDelsSpec)

/-- 'treadmilllaw11.QueuePlays', WHERE WHAT IT READS IS OF BULK AT MOST 1048576: true; the input reads as it did. -/
def queuePlaysUptoRow : OpenClaim := { program := "ytgmcimhlkccfdaa", sum := "051a7fadbfb1c403fe4ffea5e2aadd042621d8bec7ebb66a61c998a1bc27bf98", func := "treadmill/treadmilllaw11.QueuePlays", spec := "queuePlays", apart := false, narrowed := true }
def QueuePlaysUptoSaid : Prop := queuePlaysUptoRow.holds Try.pinned (OpenSpec.upto queuePlaysSpec)

/-- 'treadmilllaw10.RingPlays', WHERE WHAT IT READS IS OF BULK AT MOST 1048576: true; the input reads as it did. -/
def ringPlaysUptoRow : OpenClaim := { program := "ytgmcimhlkccfdaa", sum := "051a7fadbfb1c403fe4ffea5e2aadd042621d8bec7ebb66a61c998a1bc27bf98", func := "treadmill/treadmilllaw10.RingPlays", spec := "ringPlays", apart := false, narrowed := true }
def RingPlaysUptoSaid : Prop := ringPlaysUptoRow.holds Try.pinned (OpenSpec.upto ringPlaysSpec)

end Rows
end Go.Proofs.Ytgmcimhlkccfdaa
