/-
  No cell of these rows narrows 'for every input' (looked for: loops, veiled, ifaces, maps, wideKeys, modest, calm, conditions, laid).
  DERIVED. THE GIVEN ROWS OF THIS SEAT. 7 by the template 'for every input the law returns true; each argument reads behind the call as it read before'; 0 by the template 'total and deterministic' (their statements: YtejijddhmckgiaaTotals.lean).
  GIVEN WITH THE SEED: the statements are not yours to turn. If you find one false, say at which input.
  Laid BY PROGRAM, IN A SANDBOX (cutbox-rows.mjs): the forced cells as the released guide's own fill.sh prints them over the translation 334d1d1404031af8… (all of the seat's roots in one cut). By AI agents, Wed Nov 11 2026. No macro, syntax, notation, axiom, sorry.
-/
import Derived.Test.YtejijddhmckgiaaChecked
import GoSem.Claim
import GoSem.ClaimJoined
import GoSem.ClaimMapViews
import Derived.JoinedTies
import Derived.KernelRfl
namespace Go.Proofs.Ytejijddhmckgiaa
/- THE CELL 'sum', in the pinned program and in every row, IS THE sha256 OF THE DUMP (.gsa) THAT YtejijddhmckgiaaProg.lean LOADS. Nothing in Lean hashes anything: it is a label: what it is worth is what the hold of that sum in a sandbox is worth. -/
noncomputable def Try.pinned : Pinned := { name := "ytejijddhmckgiaa", sum := "334d1d1404031af8600222dcbf3cddaf480e538dc269732bd4af82d49c04ec2c", checked := Try.checked }
namespace Rows
def none {H : Type} : Left H := { results := [], args := [] }

/-- 'treadmilllaw19.BarrierPlays': WHATEVER THE INPUT: true; the input reads as it did. -/
def barrierPlaysSpec : ChangeSpec := { name := "barrierPlays", fn := fun _ => fun
  | [d1, d2] => { results := [.lit (.bool true)], args := [d1, d2] }
  | _ => none }
def barrierPlaysRow : OpenClaim := { program := "ytejijddhmckgiaa", sum := "334d1d1404031af8600222dcbf3cddaf480e538dc269732bd4af82d49c04ec2c", func := "treadmill/treadmilllaw19.BarrierPlays", spec := "barrierPlays", apart := false }
def BarrierPlaysSaid : Prop := barrierPlaysRow.holds Try.pinned (OpenSpec.ofChange barrierPlaysSpec)

/-- ITS FALSE NEIGHBOUR: 'it returns false'. Refute it at one input. -/
def barrierPlaysWrong : ChangeSpec := { name := "barrierPlays", fn := fun _ => fun
  | [d1, d2] => { results := [.lit (.bool false)], args := [d1, d2] }
  | _ => none }
def BarrierPlaysWrongFalsely : Prop := barrierPlaysRow.holds Try.pinned (OpenSpec.ofChange barrierPlaysWrong)

/-- 'treadmilllaw8.CentralDels': WHATEVER THE INPUT: true; the input reads as it did. -/
def centralDelsSpec : ChangeSpec := { name := "centralDels", fn := fun _ => fun
  | [d1, d2, d3, d4] => { results := [.lit (.bool true)], args := [d1, d2, d3, d4] }
  | _ => none }
def centralDelsRow : OpenClaim := { program := "ytejijddhmckgiaa", sum := "334d1d1404031af8600222dcbf3cddaf480e538dc269732bd4af82d49c04ec2c", func := "treadmill/treadmilllaw8.CentralDels", spec := "centralDels", apart := false }
def CentralDelsSaid : Prop := centralDelsRow.holds Try.pinned (OpenSpec.ofChange centralDelsSpec)

/-- ITS FALSE NEIGHBOUR: 'it returns false'. Refute it at one input. -/
def centralDelsWrong : ChangeSpec := { name := "centralDels", fn := fun _ => fun
  | [d1, d2, d3, d4] => { results := [.lit (.bool false)], args := [d1, d2, d3, d4] }
  | _ => none }
def CentralDelsWrongFalsely : Prop := centralDelsRow.holds Try.pinned (OpenSpec.ofChange centralDelsWrong)

/-- 'treadmilllaw8.CentralOnce': WHATEVER THE INPUT: true; the input reads as it did. -/
def centralOnceSpec : ChangeSpec := { name := "centralOnce", fn := fun _ => fun
  | [d1, d2] => { results := [.lit (.bool true)], args := [d1, d2] }
  | _ => none }
def centralOnceRow : OpenClaim := { program := "ytejijddhmckgiaa", sum := "334d1d1404031af8600222dcbf3cddaf480e538dc269732bd4af82d49c04ec2c", func := "treadmill/treadmilllaw8.CentralOnce", spec := "centralOnce", apart := false }
def CentralOnceSaid : Prop := centralOnceRow.holds Try.pinned (OpenSpec.ofChange centralOnceSpec)

/-- ITS FALSE NEIGHBOUR: 'it returns false'. Refute it at one input. -/
def centralOnceWrong : ChangeSpec := { name := "centralOnce", fn := fun _ => fun
  | [d1, d2] => { results := [.lit (.bool false)], args := [d1, d2] }
  | _ => none }
def CentralOnceWrongFalsely : Prop := centralOnceRow.holds Try.pinned (OpenSpec.ofChange centralOnceWrong)

/-- 'treadmilllaw8.CentralTurns': WHATEVER THE INPUT: true; the input reads as it did. -/
def centralTurnsSpec : ChangeSpec := { name := "centralTurns", fn := fun _ => fun
  | [d1, d2, d3] => { results := [.lit (.bool true)], args := [d1, d2, d3] }
  | _ => none }
def centralTurnsRow : OpenClaim := { program := "ytejijddhmckgiaa", sum := "334d1d1404031af8600222dcbf3cddaf480e538dc269732bd4af82d49c04ec2c", func := "treadmill/treadmilllaw8.CentralTurns", spec := "centralTurns", apart := false }
def CentralTurnsSaid : Prop := centralTurnsRow.holds Try.pinned (OpenSpec.ofChange centralTurnsSpec)

/-- ITS FALSE NEIGHBOUR: 'it returns false'. Refute it at one input. -/
def centralTurnsWrong : ChangeSpec := { name := "centralTurns", fn := fun _ => fun
  | [d1, d2, d3] => { results := [.lit (.bool false)], args := [d1, d2, d3] }
  | _ => none }
def CentralTurnsWrongFalsely : Prop := centralTurnsRow.holds Try.pinned (OpenSpec.ofChange centralTurnsWrong)

/-- 'treadmilllaw8.CentralPlays': WHATEVER THE INPUT: true; the input reads as it did. -/
def centralPlaysSpec : ChangeSpec := { name := "centralPlays", fn := fun _ => fun
  | [d] => { results := [.lit (.bool true)], args := [d] }
  | _ => none }
def centralPlaysRow : OpenClaim := { program := "ytejijddhmckgiaa", sum := "334d1d1404031af8600222dcbf3cddaf480e538dc269732bd4af82d49c04ec2c", func := "treadmill/treadmilllaw8.CentralPlays", spec := "centralPlays", apart := false }
def CentralPlaysSaid : Prop := centralPlaysRow.holds Try.pinned (OpenSpec.ofChange centralPlaysSpec)

/-- ITS FALSE NEIGHBOUR: 'it returns false'. Refute it at one input. -/
def centralPlaysWrong : ChangeSpec := { name := "centralPlays", fn := fun _ => fun
  | [d] => { results := [.lit (.bool false)], args := [d] }
  | _ => none }
def CentralPlaysWrongFalsely : Prop := centralPlaysRow.holds Try.pinned (OpenSpec.ofChange centralPlaysWrong)

/-- 'treadmilllaw27.SchedPlays': WHATEVER THE INPUT: true; the input reads as it did. -/
def schedPlaysSpec : ChangeSpec := { name := "schedPlays", fn := fun _ => fun
  | [d1, d2] => { results := [.lit (.bool true)], args := [d1, d2] }
  | _ => none }
def schedPlaysRow : OpenClaim := { program := "ytejijddhmckgiaa", sum := "334d1d1404031af8600222dcbf3cddaf480e538dc269732bd4af82d49c04ec2c", func := "treadmill/treadmilllaw27.SchedPlays", spec := "schedPlays", unfollowed := true, recurses := true, apart := false }
def SchedPlaysSaid : Prop := schedPlaysRow.holds Try.pinned (OpenSpec.ofChange schedPlaysSpec)

/-- ITS FALSE NEIGHBOUR: 'it returns false'. Refute it at one input. -/
def schedPlaysWrong : ChangeSpec := { name := "schedPlays", fn := fun _ => fun
  | [d1, d2] => { results := [.lit (.bool false)], args := [d1, d2] }
  | _ => none }
def SchedPlaysWrongFalsely : Prop := schedPlaysRow.holds Try.pinned (OpenSpec.ofChange schedPlaysWrong)

/-- 'treadmilllaw30.AuditEach': WHATEVER THE INPUT: true; the input reads as it did. -/
def auditEachSpec : ChangeSpec := { name := "auditEach", fn := fun _ => fun
  | [d1, d2] => { results := [.lit (.bool true)], args := [d1, d2] }
  | _ => none }
def auditEachRow : OpenClaim := { program := "ytejijddhmckgiaa", sum := "334d1d1404031af8600222dcbf3cddaf480e538dc269732bd4af82d49c04ec2c", func := "treadmill/treadmilllaw30.AuditEach", spec := "auditEach", unfollowed := true, recurses := true, apart := false }
def AuditEachSaid : Prop := auditEachRow.holds Try.pinned (OpenSpec.ofChange auditEachSpec)

/-- ITS FALSE NEIGHBOUR: 'it returns false'. Refute it at one input. -/
def auditEachWrong : ChangeSpec := { name := "auditEach", fn := fun _ => fun
  | [d1, d2] => { results := [.lit (.bool false)], args := [d1, d2] }
  | _ => none }
def AuditEachWrongFalsely : Prop := auditEachRow.holds Try.pinned (OpenSpec.ofChange auditEachWrong)

/- THE SECOND FORM. 'bulk': how many values and letters a reading holds, each counted each time it is reached (what is shared counts as often as it is met; a slice's spare places count too). A statement '..UptoSaid' is the law's where the arguments, and the package variables that the reading takes, are together of bulk at most 1048576: NARROWER than '..Said'. Prove '..Said' where nothing that the law and all that it calls make is longer than what came in: it says more and counts as full. Else prove '..UptoSaid'. A law counts once. -/
mutual
def uptoBulk {H : Type} : DataW H → Nat
  | .lit (.string bytes) => bytes.length + 1
  | .lit _ => 1
  | .nil => 1
  | .ptr d => uptoBulk d + 1
  | .slice elems spare => uptoBulkAll elems + uptoBulkAll spare + 1
  | .agg parts => uptoBulkAll parts + 1
  | .iface _ d => uptoBulk d + 1
  | .map entries => uptoBulkEntries entries + 1
  | .held _ => 1
def uptoBulkAll {H : Type} : List (DataW H) → Nat
  | [] => 0
  | d :: r => uptoBulk d + uptoBulkAll r
def uptoBulkEntries {H : Type} : List (Lit × DataW H) → Nat
  | [] => 0
  | x :: r => uptoBulkEntry x + uptoBulkEntries r
def uptoBulkEntry {H : Type} : Lit × DataW H → Nat
  | (.string bytes, d) => bytes.length + uptoBulk d + 1
  | (_, d) => uptoBulk d + 1
 end
def uptoSmall : (H : Type) → List (DataW H) → Bool := fun _ ds => decide (uptoBulkAll ds ≤ 1048576)
def OpenSpec.upto (s : _root_.Go.ChangeSpec) : _root_.Go.OpenSpec := { _root_.Go.OpenSpec.ofChange s with cond := some uptoSmall }

/-- 'treadmilllaw19.BarrierPlays', WHERE WHAT IT READS IS OF BULK AT MOST 1048576: true; the input reads as it did. -/
def barrierPlaysUptoRow : OpenClaim := { program := "ytejijddhmckgiaa", sum := "334d1d1404031af8600222dcbf3cddaf480e538dc269732bd4af82d49c04ec2c", func := "treadmill/treadmilllaw19.BarrierPlays", spec := "barrierPlays", apart := false, narrowed := true }
def BarrierPlaysUptoSaid : Prop := barrierPlaysUptoRow.holds Try.pinned (OpenSpec.upto barrierPlaysSpec)

/-- 'treadmilllaw8.CentralDels', WHERE WHAT IT READS IS OF BULK AT MOST 1048576: true; the input reads as it did. -/
def centralDelsUptoRow : OpenClaim := { program := "ytejijddhmckgiaa", sum := "334d1d1404031af8600222dcbf3cddaf480e538dc269732bd4af82d49c04ec2c", func := "treadmill/treadmilllaw8.CentralDels", spec := "centralDels", apart := false, narrowed := true }
def CentralDelsUptoSaid : Prop := centralDelsUptoRow.holds Try.pinned (OpenSpec.upto centralDelsSpec)

/-- 'treadmilllaw8.CentralOnce', WHERE WHAT IT READS IS OF BULK AT MOST 1048576: true; the input reads as it did. -/
def centralOnceUptoRow : OpenClaim := { program := "ytejijddhmckgiaa", sum := "334d1d1404031af8600222dcbf3cddaf480e538dc269732bd4af82d49c04ec2c", func := "treadmill/treadmilllaw8.CentralOnce", spec := "centralOnce", apart := false, narrowed := true }
def CentralOnceUptoSaid : Prop := centralOnceUptoRow.holds Try.pinned (OpenSpec.upto centralOnceSpec)

/-- 'treadmilllaw8.CentralTurns', WHERE WHAT IT READS IS OF BULK AT MOST 1048576: true; the input reads as it did. -/
def centralTurnsUptoRow : OpenClaim := { program := "ytejijddhmckgiaa", sum := "334d1d1404031af8600222dcbf3cddaf480e538dc269732bd4af82d49c04ec2c", func := "treadmill/treadmilllaw8.CentralTurns", spec := "centralTurns", apart := false, narrowed := true }
def CentralTurnsUptoSaid : Prop := centralTurnsUptoRow.holds Try.pinned (OpenSpec.upto centralTurnsSpec)

/-- 'treadmilllaw8.CentralPlays', WHERE WHAT IT READS IS OF BULK AT MOST 1048576: true; the input reads as it did. -/
def centralPlaysUptoRow : OpenClaim := { program := "ytejijddhmckgiaa", sum := "334d1d1404031af8600222dcbf3cddaf480e538dc269732bd4af82d49c04ec2c", func := "treadmill/treadmilllaw8.CentralPlays", spec := "centralPlays", apart := false, narrowed := true }
def CentralPlaysUptoSaid : Prop := centralPlaysUptoRow.holds Try.pinned (OpenSpec.upto centralPlaysSpec)

/-- 'treadmilllaw27.SchedPlays', WHERE WHAT IT READS IS OF BULK AT MOST 1048576: true; the input reads as it did. -/
def schedPlaysUptoRow : OpenClaim := { program := "ytejijddhmckgiaa", sum := "334d1d1404031af8600222dcbf3cddaf480e538dc269732bd4af82d49c04ec2c", func := "treadmill/treadmilllaw27.SchedPlays", spec := "schedPlays", unfollowed := true, recurses := true, apart := false, narrowed := true }
def SchedPlaysUptoSaid : Prop := schedPlaysUptoRow.holds Try.pinned (OpenSpec.upto schedPlaysSpec)

/-- 'treadmilllaw30.AuditEach', WHERE WHAT IT READS IS OF BULK AT MOST 1048576: true; the input reads as it did. -/
def auditEachUptoRow : OpenClaim := { program := "ytejijddhmckgiaa", sum := "334d1d1404031af8600222dcbf3cddaf480e538dc269732bd4af82d49c04ec2c", func := "treadmill/treadmilllaw30.AuditEach", spec := "auditEach", unfollowed := true, recurses := true, apart := false, narrowed := true }
def AuditEachUptoSaid : Prop := auditEachUptoRow.holds Try.pinned (OpenSpec.upto auditEachSpec)

end Rows
end Go.Proofs.Ytejijddhmckgiaa
