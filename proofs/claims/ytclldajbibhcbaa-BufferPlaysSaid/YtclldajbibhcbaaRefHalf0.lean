/- Half of the document's own buffer, where it goes over: its answer. -/
import Derived.Test.YtclldajbibhcbaaRefBuf2
import Derived.Deep.Cut
import Derived.Deep.CutBlock
import Derived.Deep.CutRange
namespace Go.Proofs.Ytclldajbibhcbaa
open Go.RowKit Go.Lib Fx Ho Rw Qu
set_option linter.unusedVariables false
namespace Rb
variable {S : Home} {w w' : World} {p q : Nat} {v u : Value} {L M : List Int} {H H' : Home}
/-- The call answers r; the two have turned, and nothing else. -/
def Both (S : Home) (r : Value) (w : World) (p q : Nat) (L M : List Int) (e : Ending) (w' : World) : Prop := ∃ v u, e = .returned r ∧ Wrote (fun k => k = p ∨ k = q) w (fun k => k = p ∨ k = q) w' ∧ IsB S w' p v L ∧ IsB S w' q u M
theorem wrote_l {a b : World} (h : Wrote (fun k => k = p) a (fun k => k = p) b) : Wrote (fun k => k = p ∨ k = q) a (fun k => k = p ∨ k = q) b :=
  ⟨h.os, h.tape, h.output, h.size, fun k hk hn => h.block k hk (fun e => hn (Or.inl e)), fun _ h => Or.inl h⟩
theorem wrote_r {a b : World} (h : Wrote (fun k => k = q) a (fun k => k = q) b) : Wrote (fun k => k = p ∨ k = q) a (fun k => k = p ∨ k = q) b :=
  ⟨h.os, h.tape, h.output, h.size, fun k hk hn => h.block k hk (fun e => hn (Or.inr e)), fun _ h => Or.inl h⟩
end Rb
end Go.Proofs.Ytclldajbibhcbaa
