/- The document's own ring: who is next, and a row, each a plain list that is never written again once it is made. -/
import Derived.Test.YtpclacaiabbmjaaRingTwo
import Derived.Test.YtpclacaiabbmjaaOut
namespace Go.Proofs.Ytpclacaiabbmjaa
open Go.RowKit Go.Lib Fx Ho Ri Rw
set_option linter.unusedVariables false
namespace Rr
/-- A ring of the document's at p; its rows lie in blocks of S. -/
structure IsR (S : Home) (w : World) (p : Nat) (nv lv : Value) (nx : Option Int) (L : List Int) : Prop where
  head : w.heap[p]? = some (.cells #[nv, lv] 82 (0, 0))
  nr : Ints w S nv nx.toList
  lr : Ints w S lv L
  cap : ∀ s n c, lv = .slice s n c → n ≤ c
variable {S : Home} {w w' : World} {p : Nat} {nv lv : Value} {nx : Option Int} {L : List Int} {H H' : Home}
namespace IsR
theorem c0 (h : IsR S w p nv lv nx L) : w.cell? ⟨p, 0, none⟩ = some nv := cell_of h.head rfl
theorem c1 (h : IsR S w p nv lv nx L) : w.cell? ⟨p, 1, none⟩ = some lv := cell_of h.head rfl
theorem fz (h : IsR S w p nv lv nx L) (j : Nat) : w.frozen? ⟨p, j, none⟩ = false := frozen_of_row w p j _ _ h.head
theorem wrote (h : IsR S w p nv lv nx L) (ht : Wrote H w H' w') (hp : ¬ H p) (ho : Off S H) : IsR S w' p nv lv nx L :=
  ⟨by rw [ht.block p (block_lt h.head) hp]; exact h.head, h.nr.wrote ht ho, h.lr.wrote ht ho, h.cap⟩
theorem below (h : IsR S w p nv lv nx L) (hb : Below w.heap.size w w') : IsR S w' p nv lv nx L := h.wrote (H := fun _ => False) (Wrote.of_below hb) (fun h => h) (fun _ _ h => h)
theorem lt (h : IsR S w p nv lv nx L) : p < w.heap.size := block_lt h.head
/-- Who is next is another one. -/
theorem setN (h : IsR S w p nv lv nx L) (hp : ¬ S p) {w1 : World} {v1 : Value} {nx' : Option Int} (hb : Below w.heap.size w w1) (hv : Ints w1 S v1 nx'.toList) : Wrote (fun k => k = p) w (fun k => k = p) (w1.setCell ⟨p, 0, none⟩ v1) ∧ IsR S (w1.setCell ⟨p, 0, none⟩ v1) p v1 lv nx' L := by
  have h1 := h.below hb
  have hw : Wrote (fun k => k = p) w1 (fun k => k = p) (w1.setCell ⟨p, 0, none⟩ v1) := wrote_setCell (a := ⟨p, 0, none⟩) (u := v1) rfl rfl rfl rfl rfl
  refine ⟨(Wrote.of_below hb).trans hw, ⟨?_, hv.wrote hw (fun k hk e => hp (e ▸ hk)), h1.lr.wrote hw (fun k hk e => hp (e ▸ hk)), h.cap⟩⟩
  rw [heap_setCell_same _ p 0 _ _ _ h1.head]; rfl
/-- The row is another one. -/
theorem setL (h : IsR S w p nv lv nx L) (hp : ¬ S p) {w1 : World} {v1 : Value} {L' : List Int} (hb : Below w.heap.size w w1) (hv : Ints w1 S v1 L') (hc : ∀ s n c, v1 = .slice s n c → n ≤ c) : Wrote (fun k => k = p) w (fun k => k = p) (w1.setCell ⟨p, 1, none⟩ v1) ∧ IsR S (w1.setCell ⟨p, 1, none⟩ v1) p nv v1 nx L' := by
  have h1 := h.below hb
  have hw : Wrote (fun k => k = p) w1 (fun k => k = p) (w1.setCell ⟨p, 1, none⟩ v1) := wrote_setCell (a := ⟨p, 1, none⟩) (u := v1) rfl rfl rfl rfl rfl
  refine ⟨(Wrote.of_below hb).trans hw, ⟨?_, h1.nr.wrote hw (fun k hk e => hp (e ▸ hk)), hv.wrote hw (fun k hk e => hp (e ▸ hk)), hc⟩⟩
  rw [heap_setCell_same _ p 1 _ _ _ h1.head]; rfl
end IsR
/-- The call answers the numbers out; of what there was the ring at p alone has turned. -/
def Told (S : Home) (w : World) (p : Nat) (nx : Option Int) (L out : List Int) (e : Ending) (w' : World) : Prop :=
  ∃ v' nv' lv', e = .returned v' ∧ Wrote (fun k => k = p) w (fun k => k = p) w' ∧ IsR S w' p nv' lv' nx L ∧ Ints w' S v' out
end Rr
end Go.Proofs.Ytpclacaiabbmjaa
