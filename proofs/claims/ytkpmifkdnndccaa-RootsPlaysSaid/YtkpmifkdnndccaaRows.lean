/-
  No cell of these rows narrows 'for every input' (looked for: loops, veiled, ifaces, maps, wideKeys, modest, calm, conditions, laid).
  DERIVED. THE GIVEN ROWS OF THIS SEAT. 13 by the template 'for every input the law returns true; each argument reads behind the call as it read before'; 0 by the template 'total and deterministic' (their statements: YtkpmifkdnndccaaTotals.lean).
  GIVEN WITH THE SEED: the statements are not yours to turn. If you find one false, say at which input.
  Laid BY PROGRAM, IN A SANDBOX (cutbox-rows.mjs): the forced cells as the released guide's own fill.sh prints them over the translation 977eaa125a385b41… (all of the seat's roots in one cut). By AI agents, Wed Nov 11 2026. No macro, syntax, notation, axiom, sorry.
-/
import Derived.Test.YtkpmifkdnndccaaChecked
import GoSem.Claim
import GoSem.ClaimJoined
import GoSem.ClaimMapViews
import Derived.JoinedTies
import Derived.KernelRfl
namespace Go.Proofs.Ytkpmifkdnndccaa
/- THE CELL 'sum', in the pinned program and in every row, IS THE sha256 OF THE DUMP (.gsa) THAT YtkpmifkdnndccaaProg.lean LOADS. Nothing in Lean hashes anything: it is a label: what it is worth is what the hold of that sum in a sandbox is worth. -/
noncomputable def Try.pinned : Pinned := { name := "ytkpmifkdnndccaa", sum := "977eaa125a385b411e89313ea4c75e48a465c2342c193d111e4c56dd6ba55b6b", checked := Try.checked }
namespace Rows
def none {H : Type} : Left H := { results := [], args := [] }

/-- 'treadmilllaw21.RootsPlays': WHATEVER THE INPUT: true; the input reads as it did. -/
def rootsPlaysSpec : ChangeSpec := { name := "rootsPlays", fn := fun _ => fun
  | [d1, d2, d3] => { results := [.lit (.bool true)], args := [d1, d2, d3] }
  | _ => none }
def rootsPlaysRow : OpenClaim := { program := "ytkpmifkdnndccaa", sum := "977eaa125a385b411e89313ea4c75e48a465c2342c193d111e4c56dd6ba55b6b", func := "treadmill/treadmilllaw21.RootsPlays", spec := "rootsPlays", apart := false }
def RootsPlaysSaid : Prop := rootsPlaysRow.holds Try.pinned (OpenSpec.ofChange rootsPlaysSpec)

/-- ITS FALSE NEIGHBOUR: 'it returns false'. Refute it at one input. -/
def rootsPlaysWrong : ChangeSpec := { name := "rootsPlays", fn := fun _ => fun
  | [d1, d2, d3] => { results := [.lit (.bool false)], args := [d1, d2, d3] }
  | _ => none }
def RootsPlaysWrongFalsely : Prop := rootsPlaysRow.holds Try.pinned (OpenSpec.ofChange rootsPlaysWrong)

/-- 'treadmilllaw21.RootsEach': WHATEVER THE INPUT: true; the input reads as it did. -/
def rootsEachSpec : ChangeSpec := { name := "rootsEach", fn := fun _ => fun
  | [d1, d2] => { results := [.lit (.bool true)], args := [d1, d2] }
  | _ => none }
def rootsEachRow : OpenClaim := { program := "ytkpmifkdnndccaa", sum := "977eaa125a385b411e89313ea4c75e48a465c2342c193d111e4c56dd6ba55b6b", func := "treadmill/treadmilllaw21.RootsEach", spec := "rootsEach", apart := false }
def RootsEachSaid : Prop := rootsEachRow.holds Try.pinned (OpenSpec.ofChange rootsEachSpec)

/-- ITS FALSE NEIGHBOUR: 'it returns false'. Refute it at one input. -/
def rootsEachWrong : ChangeSpec := { name := "rootsEach", fn := fun _ => fun
  | [d1, d2] => { results := [.lit (.bool false)], args := [d1, d2] }
  | _ => none }
def RootsEachWrongFalsely : Prop := rootsEachRow.holds Try.pinned (OpenSpec.ofChange rootsEachWrong)

/-- 'treadmilllaw21.RootsAdds': WHATEVER THE INPUT: true; the input reads as it did. -/
def rootsAddsSpec : ChangeSpec := { name := "rootsAdds", fn := fun _ => fun
  | [d1, d2] => { results := [.lit (.bool true)], args := [d1, d2] }
  | _ => none }
def rootsAddsRow : OpenClaim := { program := "ytkpmifkdnndccaa", sum := "977eaa125a385b411e89313ea4c75e48a465c2342c193d111e4c56dd6ba55b6b", func := "treadmill/treadmilllaw21.RootsAdds", spec := "rootsAdds", apart := false }
def RootsAddsSaid : Prop := rootsAddsRow.holds Try.pinned (OpenSpec.ofChange rootsAddsSpec)

/-- ITS FALSE NEIGHBOUR: 'it returns false'. Refute it at one input. -/
def rootsAddsWrong : ChangeSpec := { name := "rootsAdds", fn := fun _ => fun
  | [d1, d2] => { results := [.lit (.bool false)], args := [d1, d2] }
  | _ => none }
def RootsAddsWrongFalsely : Prop := rootsAddsRow.holds Try.pinned (OpenSpec.ofChange rootsAddsWrong)

/-- 'treadmilllaw22.CreditBounds': WHATEVER THE INPUT: true; the input reads as it did. -/
def creditBoundsSpec : ChangeSpec := { name := "creditBounds", fn := fun _ => fun
  | [d1, d2] => { results := [.lit (.bool true)], args := [d1, d2] }
  | _ => none }
def creditBoundsRow : OpenClaim := { program := "ytkpmifkdnndccaa", sum := "977eaa125a385b411e89313ea4c75e48a465c2342c193d111e4c56dd6ba55b6b", func := "treadmill/treadmilllaw22.CreditBounds", spec := "creditBounds", unfollowed := true, recurses := true, named := ["math/bits.divideError", "math/bits.overflowError"], apart := false }
def CreditBoundsSaid : Prop := creditBoundsRow.holds Try.pinned (OpenSpec.ofChange creditBoundsSpec)

/-- ITS FALSE NEIGHBOUR: 'it returns false'. Refute it at one input. -/
def creditBoundsWrong : ChangeSpec := { name := "creditBounds", fn := fun _ => fun
  | [d1, d2] => { results := [.lit (.bool false)], args := [d1, d2] }
  | _ => none }
def CreditBoundsWrongFalsely : Prop := creditBoundsRow.holds Try.pinned (OpenSpec.ofChange creditBoundsWrong)

/-- 'treadmilllaw22.CreditPays': WHATEVER THE INPUT: true; the input reads as it did. -/
def creditPaysSpec : ChangeSpec := { name := "creditPays", fn := fun _ => fun
  | [d1, d2] => { results := [.lit (.bool true)], args := [d1, d2] }
  | _ => none }
def creditPaysRow : OpenClaim := { program := "ytkpmifkdnndccaa", sum := "977eaa125a385b411e89313ea4c75e48a465c2342c193d111e4c56dd6ba55b6b", func := "treadmill/treadmilllaw22.CreditPays", spec := "creditPays", unfollowed := true, recurses := true, named := ["math/bits.divideError", "math/bits.overflowError"], apart := false }
def CreditPaysSaid : Prop := creditPaysRow.holds Try.pinned (OpenSpec.ofChange creditPaysSpec)

/-- ITS FALSE NEIGHBOUR: 'it returns false'. Refute it at one input. -/
def creditPaysWrong : ChangeSpec := { name := "creditPays", fn := fun _ => fun
  | [d1, d2] => { results := [.lit (.bool false)], args := [d1, d2] }
  | _ => none }
def CreditPaysWrongFalsely : Prop := creditPaysRow.holds Try.pinned (OpenSpec.ofChange creditPaysWrong)

/-- 'treadmilllaw22.CreditApart': WHATEVER THE INPUT: true; the input reads as it did. -/
def creditApartSpec : ChangeSpec := { name := "creditApart", fn := fun _ => fun
  | [d1, d2, d3] => { results := [.lit (.bool true)], args := [d1, d2, d3] }
  | _ => none }
def creditApartRow : OpenClaim := { program := "ytkpmifkdnndccaa", sum := "977eaa125a385b411e89313ea4c75e48a465c2342c193d111e4c56dd6ba55b6b", func := "treadmill/treadmilllaw22.CreditApart", spec := "creditApart", unfollowed := true, recurses := true, named := ["math/bits.divideError", "math/bits.overflowError"], apart := false }
def CreditApartSaid : Prop := creditApartRow.holds Try.pinned (OpenSpec.ofChange creditApartSpec)

/-- ITS FALSE NEIGHBOUR: 'it returns false'. Refute it at one input. -/
def creditApartWrong : ChangeSpec := { name := "creditApart", fn := fun _ => fun
  | [d1, d2, d3] => { results := [.lit (.bool false)], args := [d1, d2, d3] }
  | _ => none }
def CreditApartWrongFalsely : Prop := creditApartRow.holds Try.pinned (OpenSpec.ofChange creditApartWrong)

/-- 'treadmilllaw27.SchedSteals': WHATEVER THE INPUT: true; the input reads as it did. -/
def schedStealsSpec : ChangeSpec := { name := "schedSteals", fn := fun _ => fun
  | [d1, d2] => { results := [.lit (.bool true)], args := [d1, d2] }
  | _ => none }
def schedStealsRow : OpenClaim := { program := "ytkpmifkdnndccaa", sum := "977eaa125a385b411e89313ea4c75e48a465c2342c193d111e4c56dd6ba55b6b", func := "treadmill/treadmilllaw27.SchedSteals", spec := "schedSteals", unfollowed := true, recurses := true, apart := false }
def SchedStealsSaid : Prop := schedStealsRow.holds Try.pinned (OpenSpec.ofChange schedStealsSpec)

/-- ITS FALSE NEIGHBOUR: 'it returns false'. Refute it at one input. -/
def schedStealsWrong : ChangeSpec := { name := "schedSteals", fn := fun _ => fun
  | [d1, d2] => { results := [.lit (.bool false)], args := [d1, d2] }
  | _ => none }
def SchedStealsWrongFalsely : Prop := schedStealsRow.holds Try.pinned (OpenSpec.ofChange schedStealsWrong)

/-- 'treadmilllaw27.SchedPlays': WHATEVER THE INPUT: true; the input reads as it did. -/
def schedPlaysSpec : ChangeSpec := { name := "schedPlays", fn := fun _ => fun
  | [d1, d2] => { results := [.lit (.bool true)], args := [d1, d2] }
  | _ => none }
def schedPlaysRow : OpenClaim := { program := "ytkpmifkdnndccaa", sum := "977eaa125a385b411e89313ea4c75e48a465c2342c193d111e4c56dd6ba55b6b", func := "treadmill/treadmilllaw27.SchedPlays", spec := "schedPlays", unfollowed := true, recurses := true, apart := false }
def SchedPlaysSaid : Prop := schedPlaysRow.holds Try.pinned (OpenSpec.ofChange schedPlaysSpec)

/-- ITS FALSE NEIGHBOUR: 'it returns false'. Refute it at one input. -/
def schedPlaysWrong : ChangeSpec := { name := "schedPlays", fn := fun _ => fun
  | [d1, d2] => { results := [.lit (.bool false)], args := [d1, d2] }
  | _ => none }
def SchedPlaysWrongFalsely : Prop := schedPlaysRow.holds Try.pinned (OpenSpec.ofChange schedPlaysWrong)

/-- 'treadmilllaw27.SchedOnce': WHATEVER THE INPUT: true; the input reads as it did. -/
def schedOnceSpec : ChangeSpec := { name := "schedOnce", fn := fun _ => fun
  | [d1, d2, d3] => { results := [.lit (.bool true)], args := [d1, d2, d3] }
  | _ => none }
def schedOnceRow : OpenClaim := { program := "ytkpmifkdnndccaa", sum := "977eaa125a385b411e89313ea4c75e48a465c2342c193d111e4c56dd6ba55b6b", func := "treadmill/treadmilllaw27.SchedOnce", spec := "schedOnce", unfollowed := true, recurses := true, apart := false }
def SchedOnceSaid : Prop := schedOnceRow.holds Try.pinned (OpenSpec.ofChange schedOnceSpec)

/-- ITS FALSE NEIGHBOUR: 'it returns false'. Refute it at one input. -/
def schedOnceWrong : ChangeSpec := { name := "schedOnce", fn := fun _ => fun
  | [d1, d2, d3] => { results := [.lit (.bool false)], args := [d1, d2, d3] }
  | _ => none }
def SchedOnceWrongFalsely : Prop := schedOnceRow.holds Try.pinned (OpenSpec.ofChange schedOnceWrong)

/-- 'treadmilllaw27.SchedCommon': WHATEVER THE INPUT: true; the input reads as it did. -/
def schedCommonSpec : ChangeSpec := { name := "schedCommon", fn := fun _ => fun
  | [d1, d2] => { results := [.lit (.bool true)], args := [d1, d2] }
  | _ => none }
def schedCommonRow : OpenClaim := { program := "ytkpmifkdnndccaa", sum := "977eaa125a385b411e89313ea4c75e48a465c2342c193d111e4c56dd6ba55b6b", func := "treadmill/treadmilllaw27.SchedCommon", spec := "schedCommon", unfollowed := true, recurses := true, apart := false }
def SchedCommonSaid : Prop := schedCommonRow.holds Try.pinned (OpenSpec.ofChange schedCommonSpec)

/-- ITS FALSE NEIGHBOUR: 'it returns false'. Refute it at one input. -/
def schedCommonWrong : ChangeSpec := { name := "schedCommon", fn := fun _ => fun
  | [d1, d2] => { results := [.lit (.bool false)], args := [d1, d2] }
  | _ => none }
def SchedCommonWrongFalsely : Prop := schedCommonRow.holds Try.pinned (OpenSpec.ofChange schedCommonWrong)

/-- 'treadmilllaw27.SchedDrops': WHATEVER THE INPUT: true; the input reads as it did. -/
def schedDropsSpec : ChangeSpec := { name := "schedDrops", fn := fun _ => fun
  | [d1, d2] => { results := [.lit (.bool true)], args := [d1, d2] }
  | _ => none }
def schedDropsRow : OpenClaim := { program := "ytkpmifkdnndccaa", sum := "977eaa125a385b411e89313ea4c75e48a465c2342c193d111e4c56dd6ba55b6b", func := "treadmill/treadmilllaw27.SchedDrops", spec := "schedDrops", unfollowed := true, recurses := true, apart := false }
def SchedDropsSaid : Prop := schedDropsRow.holds Try.pinned (OpenSpec.ofChange schedDropsSpec)

/-- ITS FALSE NEIGHBOUR: 'it returns false'. Refute it at one input. -/
def schedDropsWrong : ChangeSpec := { name := "schedDrops", fn := fun _ => fun
  | [d1, d2] => { results := [.lit (.bool false)], args := [d1, d2] }
  | _ => none }
def SchedDropsWrongFalsely : Prop := schedDropsRow.holds Try.pinned (OpenSpec.ofChange schedDropsWrong)

/-- 'treadmilllaw10.RingPlays': WHATEVER THE INPUT: true; the input reads as it did. -/
def ringPlaysSpec : ChangeSpec := { name := "ringPlays", fn := fun _ => fun
  | [d] => { results := [.lit (.bool true)], args := [d] }
  | _ => none }
def ringPlaysRow : OpenClaim := { program := "ytkpmifkdnndccaa", sum := "977eaa125a385b411e89313ea4c75e48a465c2342c193d111e4c56dd6ba55b6b", func := "treadmill/treadmilllaw10.RingPlays", spec := "ringPlays", apart := false }
def RingPlaysSaid : Prop := ringPlaysRow.holds Try.pinned (OpenSpec.ofChange ringPlaysSpec)

/-- ITS FALSE NEIGHBOUR: 'it returns false'. Refute it at one input. -/
def ringPlaysWrong : ChangeSpec := { name := "ringPlays", fn := fun _ => fun
  | [d] => { results := [.lit (.bool false)], args := [d] }
  | _ => none }
def RingPlaysWrongFalsely : Prop := ringPlaysRow.holds Try.pinned (OpenSpec.ofChange ringPlaysWrong)

/-- 'treadmilllaw11.QueuePlays': WHATEVER THE INPUT: true; the input reads as it did. -/
def queuePlaysSpec : ChangeSpec := { name := "queuePlays", fn := fun _ => fun
  | [d] => { results := [.lit (.bool true)], args := [d] }
  | _ => none }
def queuePlaysRow : OpenClaim := { program := "ytkpmifkdnndccaa", sum := "977eaa125a385b411e89313ea4c75e48a465c2342c193d111e4c56dd6ba55b6b", func := "treadmill/treadmilllaw11.QueuePlays", spec := "queuePlays", apart := false }
def QueuePlaysSaid : Prop := queuePlaysRow.holds Try.pinned (OpenSpec.ofChange queuePlaysSpec)

/-- ITS FALSE NEIGHBOUR: 'it returns false'. Refute it at one input. -/
def queuePlaysWrong : ChangeSpec := { name := "queuePlays", fn := fun _ => fun
  | [d] => { results := [.lit (.bool false)], args := [d] }
  | _ => none }
def QueuePlaysWrongFalsely : Prop := queuePlaysRow.holds Try.pinned (OpenSpec.ofChange queuePlaysWrong)

/- THE SECOND FORM. 'bulk': how many values and letters a reading holds, each counted each time it is reached (what is shared counts as often as it is met; a slice's spare places count too). A statement '..UptoSaid' is the law's where the arguments, and the package variables that the reading takes, are together of bulk at most 1048576: NARROWER than '..Said'. Prove '..Said' where nothing that the law and all that it calls make is longer than what came in: it says more and counts as full. Else prove '..UptoSaid'. A law counts once. -/
mutual
def uptoBulk {H : Type} : DataW H → Nat
  | .lit (.string bytes) => bytes.length + 1
  | .lit _ => 1
  | .nil => 1
  | .ptr d => uptoBulk d + 1
  | .slice elems spare => uptoBulkAll elems + uptoBulkAll spare + 1
  | .agg parts => uptoBulkAll parts + 1
  | .iface _ d => uptoBulk d + 1
  | .map entries => uptoBulkEntries entries + 1
  | .held _ => 1
def uptoBulkAll {H : Type} : List (DataW H) → Nat
  | [] => 0
  | d :: r => uptoBulk d + uptoBulkAll r
def uptoBulkEntries {H : Type} : List (Lit × DataW H) → Nat
  | [] => 0
  | x :: r => uptoBulkEntry x + uptoBulkEntries r
def uptoBulkEntry {H : Type} : Lit × DataW H → Nat
  | (.string bytes, d) => bytes.length + uptoBulk d + 1
  | (_, d) => uptoBulk d + 1
 end
def uptoSmall : (H : Type) → List (DataW H) → Bool := fun _ ds => decide (uptoBulkAll ds ≤ 1048576)
def OpenSpec.upto (s : _root_.Go.ChangeSpec) : _root_.Go.OpenSpec := { _root_.Go.OpenSpec.ofChange s with cond := some uptoSmall }

/-- 'treadmilllaw21.RootsPlays', WHERE WHAT IT READS IS OF BULK AT MOST 1048576: true; the input reads as it did. -/
def rootsPlaysUptoRow : OpenClaim := { program := "ytkpmifkdnndccaa", sum := "977eaa125a385b411e89313ea4c75e48a465c2342c193d111e4c56dd6ba55b6b", func := "treadmill/treadmilllaw21.RootsPlays", spec := "rootsPlays", apart := false, narrowed := true }
def RootsPlaysUptoSaid : Prop := rootsPlaysUptoRow.holds Try.pinned (OpenSpec.upto rootsPlaysSpec)

/-- 'treadmilllaw21.RootsEach', WHERE WHAT IT READS IS OF BULK AT MOST 1048576: true; the input reads as it did. -/
def rootsEachUptoRow : OpenClaim := { program := "ytkpmifkdnndccaa", sum := "977eaa125a385b411e89313ea4c75e48a465c2342c193d111e4c56dd6ba55b6b", func := "treadmill/treadmilllaw21.RootsEach", spec := "rootsEach", apart := false, narrowed := true }
def RootsEachUptoSaid : Prop := rootsEachUptoRow.holds Try.pinned (OpenSpec.upto rootsEachSpec)

/-- 'treadmilllaw21.RootsAdds', WHERE WHAT IT READS IS OF BULK AT MOST 1048576: true; the input reads as it did. -/
def rootsAddsUptoRow : OpenClaim := { program := "ytkpmifkdnndccaa", sum := "977eaa125a385b411e89313ea4c75e48a465c2342c193d111e4c56dd6ba55b6b", func := "treadmill/treadmilllaw21.RootsAdds", spec := "rootsAdds", apart := false, narrowed := true }
def RootsAddsUptoSaid : Prop := rootsAddsUptoRow.holds Try.pinned (OpenSpec.upto rootsAddsSpec)

/-- 'treadmilllaw22.CreditBounds', WHERE WHAT IT READS IS OF BULK AT MOST 1048576: true; the input reads as it did. -/
def creditBoundsUptoRow : OpenClaim := { program := "ytkpmifkdnndccaa", sum := "977eaa125a385b411e89313ea4c75e48a465c2342c193d111e4c56dd6ba55b6b", func := "treadmill/treadmilllaw22.CreditBounds", spec := "creditBounds", unfollowed := true, recurses := true, named := ["math/bits.divideError", "math/bits.overflowError"], apart := false, narrowed := true }
def CreditBoundsUptoSaid : Prop := creditBoundsUptoRow.holds Try.pinned (OpenSpec.upto creditBoundsSpec)

/-- 'treadmilllaw22.CreditPays', WHERE WHAT IT READS IS OF BULK AT MOST 1048576: true; the input reads as it did. -/
def creditPaysUptoRow : OpenClaim := { program := "ytkpmifkdnndccaa", sum := "977eaa125a385b411e89313ea4c75e48a465c2342c193d111e4c56dd6ba55b6b", func := "treadmill/treadmilllaw22.CreditPays", spec := "creditPays", unfollowed := true, recurses := true, named := ["math/bits.divideError", "math/bits.overflowError"], apart := false, narrowed := true }
def CreditPaysUptoSaid : Prop := creditPaysUptoRow.holds Try.pinned (OpenSpec.upto creditPaysSpec)

/-- 'treadmilllaw22.CreditApart', WHERE WHAT IT READS IS OF BULK AT MOST 1048576: true; the input reads as it did. -/
def creditApartUptoRow : OpenClaim := { program := "ytkpmifkdnndccaa", sum := "977eaa125a385b411e89313ea4c75e48a465c2342c193d111e4c56dd6ba55b6b", func := "treadmill/treadmilllaw22.CreditApart", spec := "creditApart", unfollowed := true, recurses := true, named := ["math/bits.divideError", "math/bits.overflowError"], apart := false, narrowed := true }
def CreditApartUptoSaid : Prop := creditApartUptoRow.holds Try.pinned (OpenSpec.upto creditApartSpec)

/-- 'treadmilllaw27.SchedSteals', WHERE WHAT IT READS IS OF BULK AT MOST 1048576: true; the input reads as it did. -/
def schedStealsUptoRow : OpenClaim := { program := "ytkpmifkdnndccaa", sum := "977eaa125a385b411e89313ea4c75e48a465c2342c193d111e4c56dd6ba55b6b", func := "treadmill/treadmilllaw27.SchedSteals", spec := "schedSteals", unfollowed := true, recurses := true, apart := false, narrowed := true }
def SchedStealsUptoSaid : Prop := schedStealsUptoRow.holds Try.pinned (OpenSpec.upto schedStealsSpec)

/-- 'treadmilllaw27.SchedPlays', WHERE WHAT IT READS IS OF BULK AT MOST 1048576: true; the input reads as it did. -/
def schedPlaysUptoRow : OpenClaim := { program := "ytkpmifkdnndccaa", sum := "977eaa125a385b411e89313ea4c75e48a465c2342c193d111e4c56dd6ba55b6b", func := "treadmill/treadmilllaw27.SchedPlays", spec := "schedPlays", unfollowed := true, recurses := true, apart := false, narrowed := true }
def SchedPlaysUptoSaid : Prop := schedPlaysUptoRow.holds Try.pinned (OpenSpec.upto schedPlaysSpec)

/-- 'treadmilllaw27.SchedOnce', WHERE WHAT IT READS IS OF BULK AT MOST 1048576: true; the input reads as it did. -/
def schedOnceUptoRow : OpenClaim := { program := "ytkpmifkdnndccaa", sum := "977eaa125a385b411e89313ea4c75e48a465c2342c193d111e4c56dd6ba55b6b", func := "treadmill/treadmilllaw27.SchedOnce", spec := "schedOnce", unfollowed := true, recurses := true, apart := false, narrowed := true }
def SchedOnceUptoSaid : Prop := schedOnceUptoRow.holds Try.pinned (OpenSpec.upto schedOnceSpec)

/-- 'treadmilllaw27.SchedCommon', WHERE WHAT IT READS IS OF BULK AT MOST 1048576: true; the input reads as it did. -/
def schedCommonUptoRow : OpenClaim := { program := "ytkpmifkdnndccaa", sum := "977eaa125a385b411e89313ea4c75e48a465c2342c193d111e4c56dd6ba55b6b", func := "treadmill/treadmilllaw27.SchedCommon", spec := "schedCommon", unfollowed := true, recurses := true, apart := false, narrowed := true }
def SchedCommonUptoSaid : Prop := schedCommonUptoRow.holds Try.pinned (OpenSpec.upto schedCommonSpec)

/-- 'treadmilllaw27.SchedDrops', WHERE WHAT IT READS IS OF BULK AT MOST 1048576: true; the input reads as it did. -/
def schedDropsUptoRow : OpenClaim := { program := "ytkpmifkdnndccaa", sum := "977eaa125a385b411e89313ea4c75e48a465c2342c193d111e4c56dd6ba55b6b", func := "treadmill/treadmilllaw27.SchedDrops", spec := "schedDrops", unfollowed := true, recurses := true, apart := false, narrowed := true }
def SchedDropsUptoSaid : Prop := schedDropsUptoRow.holds Try.pinned (OpenSpec.upto schedDropsSpec)

/-- 'treadmilllaw10.RingPlays', WHERE WHAT IT READS IS OF BULK AT MOST 1048576: true; the input reads as it did. -/
def ringPlaysUptoRow : OpenClaim := { program := "ytkpmifkdnndccaa", sum := "977eaa125a385b411e89313ea4c75e48a465c2342c193d111e4c56dd6ba55b6b", func := "treadmill/treadmilllaw10.RingPlays", spec := "ringPlays", apart := false, narrowed := true }
def RingPlaysUptoSaid : Prop := ringPlaysUptoRow.holds Try.pinned (OpenSpec.upto ringPlaysSpec)

/-- 'treadmilllaw11.QueuePlays', WHERE WHAT IT READS IS OF BULK AT MOST 1048576: true; the input reads as it did. -/
def queuePlaysUptoRow : OpenClaim := { program := "ytkpmifkdnndccaa", sum := "977eaa125a385b411e89313ea4c75e48a465c2342c193d111e4c56dd6ba55b6b", func := "treadmill/treadmilllaw11.QueuePlays", spec := "queuePlays", apart := false, narrowed := true }
def QueuePlaysUptoSaid : Prop := queuePlaysUptoRow.holds Try.pinned (OpenSpec.upto queuePlaysSpec)

end Rows
end Go.Proofs.Ytkpmifkdnndccaa
