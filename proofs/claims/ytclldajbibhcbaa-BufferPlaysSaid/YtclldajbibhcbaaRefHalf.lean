/- Half of the document's own buffer, where it goes over. -/
import Derived.Test.YtclldajbibhcbaaRefHalf1
import Derived.Test.YtclldajbibhcbaaRefHalf2
namespace Go.Proofs.Ytclldajbibhcbaa
open Go.RowKit Go.Lib Fx Ho Rw Qu
set_option linter.unusedVariables false
namespace Rb
variable {S : Home} {w w' : World} {p q : Nat} {v u : Value} {L M : List Int} {H H' : Home}
theorem half_ok {n k : Nat} (hn : L.length / 2 = n) (hk : L.length = k + n) (hroom : n + M.length ≤ 32) (hs : L.length ≤ 32) (hpq : p ≠ q) (h : IsB S w p v L) (h2 : IsB S w q u M) (hp : ¬ S p) (hq : ¬ S q) (hS : ∀ k, w.heap.size ≤ k → S k) : Calls Try.prog 72 #[.pointer (some ⟨p, 0, none⟩), .pointer (some ⟨q, 0, none⟩)] w (Both S (.int .i64 n) w p q (L.take k) (M ++ L.drop k)) := by
  obtain ⟨s1, k1, e1, _⟩ := h.slice
  by_cases hk1 : k1 = k
  · exact half_ok1 e1 hk1 hn hk hroom hs hpq h h2 hp hq hS
  · exact half_ok2 e1 hk1 hn hk hroom hs hpq h h2 hp hq hS
end Rb
end Go.Proofs.Ytclldajbibhcbaa
