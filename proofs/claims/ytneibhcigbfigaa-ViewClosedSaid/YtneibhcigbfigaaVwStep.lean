/- A call in a region that draws, as a law. -/
import Derived.Test.YtneibhcigbfigaaVwClK
namespace Go.Proofs.Ytneibhcigbfigaa
open Go.RowKit Go.Lib Fx Ho Gr
set_option linter.unusedVariables false
namespace Vw
theorem step_call {P : Program} {ops : Array Oper} {o : Oper} {a : Act} {w : World} {K : Act → World → Prop} {Q : Exit → Act → World → Prop} {E : Prop} (hgd : o.guard = none) (f : Nat) (xs : Array Operand) {ts : Array TypeId} (ho : o.op = .call { callee := .value (.func f), args := xs, argTypes := ts }) (args : Array Value) (ha : xs.map a.eval = args) (hcf : (callFunc f args).run P w = .ok (.enter f args) w) {post : Ending → World → Prop}
    (hc : Calls P f args w post) (hK : ∀ e w', post e w' → ∃ v, e = .returned v ∧ K (a.put o.dst v) w') : if Region.wanted o (yielded ops a.tmps) = true then Oper.wp P o a w K Q else E := by
  subst ha
  have hw : Region.wanted o (yielded ops a.tmps) = true := by simp [Region.wanted, hgd]
  rw [if_pos hw]
  unfold Oper.wp
  have hrun : (execOp a.eval o).run P w = .ok (.enter f (xs.map a.eval)) w := by
    simp [execOp, ho, resolve, invoke, Act.eval, Deferred.ofValue, hcf]
  rw [hrun, Oper.upon_enter]
  refine hc.mono fun e w'' hh => ?_
  obtain ⟨v, rfl, h⟩ := hK _ _ hh
  exact h
theorem step_call1 {P : Program} {ops : Array Oper} {o : Oper} {a : Act} {w : World} {K : Act → World → Prop} {Q : Exit → Act → World → Prop} {E : Prop} {post : Ending → World → Prop} (hgd : o.guard = none) (f : Nat) (x1 : Operand) {ts : Array TypeId} (ho : o.op = .call { callee := .value (.func f), args := #[x1], argTypes := ts }) (v1 : Value) (ha1 : a.eval x1 = v1) (hcf : (callFunc f #[v1]).run P w = .ok (.enter f #[v1]) w)
    (hc : Calls P f #[v1] w post) (hK : ∀ e w', post e w' → ∃ v, e = .returned v ∧ K (a.put o.dst v) w') : if Region.wanted o (yielded ops a.tmps) = true then Oper.wp P o a w K Q else E :=
  step_call hgd f #[x1] ho #[v1] (by simp [ha1]) hcf hc hK
theorem step_call2 {P : Program} {ops : Array Oper} {o : Oper} {a : Act} {w : World} {K : Act → World → Prop} {Q : Exit → Act → World → Prop} {E : Prop} (hgd : o.guard = none) (f : Nat) (x1 x2 : Operand) {ts : Array TypeId} (ho : o.op = .call { callee := .value (.func f), args := #[x1, x2], argTypes := ts }) (v1 v2 : Value) (ha1 : a.eval x1 = v1) (ha2 : a.eval x2 = v2) (hcf : (callFunc f #[v1, v2]).run P w = .ok (.enter f #[v1, v2]) w) {post : Ending → World → Prop}
    (hc : Calls P f #[v1, v2] w post) (hK : ∀ e w', post e w' → ∃ v, e = .returned v ∧ K (a.put o.dst v) w') : if Region.wanted o (yielded ops a.tmps) = true then Oper.wp P o a w K Q else E :=
  step_call hgd f #[x1, x2] ho #[v1, v2] (by simp [ha1, ha2]) hcf hc hK
theorem keep_cell {w w' : World} (hb : Below w.heap.size w w') : ∀ a, (w.cell? a).isSome = true → w'.cell? a = w.cell? a := fun a h => by
  cases e : w.cell? a with
  | none => rw [e] at h; cases h
  | some v => exact cell_then hb e
theorem keep_frozen {w w' : World} (hb : Below w.heap.size w w') : ∀ a, (w.cell? a).isSome = true → w'.frozen? a = w.frozen? a := fun a h => by
  cases e : w.cell? a with
  | none => rw [e] at h; cases h
  | some v => exact World.frozen?_of_block (hb.block a.block (World.block_lt_of_cell? w _ e))
theorem new_cell (w : World) (v : Value) (t : TypeId) : (w.alloc (.cells #[v] t)).cell? ⟨w.heap.size, 0, none⟩ = some v ∧ (w.alloc (.cells #[v] t)).frozen? ⟨w.heap.size, 0, none⟩ = false :=
  ⟨cell_of (heap_alloc_new w _) rfl, frozen_of_row _ _ _ _ _ (heap_alloc_new w _)⟩
theorem both_then {w w' : World} {a : Addr} {v : Value} (hb : Below w.heap.size w w') (h : w.cell? a = some v ∧ w.frozen? a = false) : w'.cell? a = some v ∧ w'.frozen? a = false :=
  ⟨cell_then hb h.1, (World.frozen?_of_block (hb.block a.block (World.block_lt_of_cell? w _ h.1))).trans h.2⟩
theorem le_of_below {w0 w : World} (h : Below w0.heap.size w0 w) : w0.heap.size ≤ w.heap.size := h.size
theorem below_set {w0 w : World} {a : Addr} {v : Value} (h : Below w0.heap.size w0 w) (ha : w0.heap.size ≤ a.block) : Below w0.heap.size w0 (w.setCell a v) := h.setCell (p := a) ha v
theorem kz_go {w0 W : World} {V : Vi} {vg vs vo : Value} {p : Nat} (h : Box9 p V vg vs vo w0) (hb : Below w0.heap.size w0 W) : Below w0.heap.size w0 W ∧ W.cell? ⟨p, 0, none⟩ = some (.int .i64 V.ph) ∧ W.cell? ⟨p, 1, none⟩ = some (.int .i64 V.cy) ∧ W.cell? ⟨p, 2, none⟩ = some (.int .i64 V.ck) ∧ W.cell? ⟨p, 3, none⟩ = some vg ∧ W.cell? ⟨p, 4, none⟩ = some vs ∧ W.cell? ⟨p, 5, none⟩ = some vo ∧ W.cell? ⟨p, 6, none⟩ = some (.int .i64 V.gr) ∧ W.cell? ⟨p, 7, none⟩ = some (.int .i64 V.nt) ∧ W.cell? ⟨p, 8, none⟩ = some (.int .i64 V.rt) := ⟨hb, h.below hb⟩
/-- A box that was made, and holds no row yet. -/
def Bx (w0 X : World) (N : Nat) : Prop := X.heap[N]? = some (.cells #[.slice none 0 0] 23 (0, 0)) ∧ w0.heap.size ≤ N
theorem Bx.below {w0 X Y : World} {N : Nat} (h : Bx w0 X N) (hb : Below X.heap.size X Y) : Bx w0 Y N := ⟨(hb.block N (block_lt h.1)).trans h.1, h.2⟩
theorem Bx.new {w0 X : World} (hb : Below w0.heap.size w0 X) : Bx w0 (X.alloc (.cells #[.slice none 0 0] 23)) X.heap.size := ⟨heap_alloc_new X _, hb.size⟩
theorem Bx.cell {w0 X : World} {N : Nat} (h : Bx w0 X N) : X.cell? ⟨N, 0, none⟩ = some (.slice none 0 0) ∧ X.frozen? ⟨N, 0, none⟩ = false := ⟨cell_of h.1 rfl, frozen_of_row _ _ _ _ _ h.1⟩
theorem Bx.put {w0 X : World} {N M : Nat} {u : Value} (h : Bx w0 X N) (h2 : Bx w0 X M) (hne : N ≠ M) (hb : Below w0.heap.size w0 X) : (X.setCell ⟨N, 0, none⟩ u).cell? ⟨N, 0, none⟩ = some u ∧ Bx w0 (X.setCell ⟨N, 0, none⟩ u) M ∧ Below w0.heap.size w0 (X.setCell ⟨N, 0, none⟩ u) := by
  have hw : Wrote (fun r => r = N) X (fun r => r = N) (X.setCell ⟨N, 0, none⟩ u) := wrote_setCell (a := ⟨N, 0, none⟩) rfl rfl rfl rfl rfl
  exact ⟨World.cell?_setCell_same _ _ _ h.cell.1, ⟨(hw.block M (block_lt h2.1) (fun e => hne e.symm)).trans h2.1, h2.2⟩, below_set hb h.2⟩
theorem ints_any0 {X : World} {S : Home} {v : Value} {zs : List Int} (h : Ints X S v zs) : Ints X Any v zs := h.wider fun _ _ _ => trivial
/-- No row lies in such a box. -/
theorem Bx.off {w0 X : World} {N : Nat} {v : Value} {zs : List Int} (h : Bx w0 X N) (hi : Ints X Any v zs) : Ints X (fun r => r ≠ N) v zs := by
  obtain ⟨sp, cap, e, h1, h2⟩ := hi
  refine ⟨sp, cap, e, h1, fun i hi => ?_⟩
  obtain ⟨b, off, e2, h3, h4, h5⟩ := h2 i hi
  refine ⟨b, off, e2, fun e3 => ?_, h4, h5⟩
  subst e3
  unfold World.cell? at h5
  rw [show X.heap[(⟨b, off + i, none⟩ : Addr).block]? = _ from h.1] at h5
  cases hoi : off + i with
  | zero => simp [hoi] at h5
  | succ n => simp [hoi] at h5
theorem kz_end {w0 X : World} {V : Vi} {vg vs vo va vb vr : Value} {p N3 N4 : Nat} {ts us rs : List Int} (hq : Below w0.heap.size w0 X) (h3 : Bx w0 X N3) (h4 : Bx w0 X N4) (hne : N3 ≠ N4) (hv : IsV w0 V vg vs vo) (hB : Box9 p V vg vs vo w0) (ha : Ints X Any va ts) (hb : Ints X Any vb us) (hr : Ints X Any vr rs) : Kz w0 ((X.setCell ⟨N3, 0, none⟩ va).setCell ⟨N4, 0, none⟩ vb) V vg vs vo va vb vr ts us rs p N3 N4 := by
  have hw3 : Wrote (fun r => r = N3) X (fun r => r = N3) (X.setCell ⟨N3, 0, none⟩ va) := wrote_setCell (a := ⟨N3, 0, none⟩) rfl rfl rfl rfl rfl
  obtain ⟨d3, h5, hq2⟩ := h3.put (u := va) h4 hne hq
  have hw4 : Wrote (fun r => r = N4) (X.setCell ⟨N3, 0, none⟩ va) (fun r => r = N4) ((X.setCell ⟨N3, 0, none⟩ va).setCell ⟨N4, 0, none⟩ vb) := wrote_setCell (a := ⟨N4, 0, none⟩) rfl rfl rfl rfl rfl
  have hq3 := below_set (v := vb) hq2 (a := ⟨N4, 0, none⟩) h5.2
  have key : ∀ {v : Value} {zs : List Int}, Ints X Any v zs → Ints ((X.setCell ⟨N3, 0, none⟩ va).setCell ⟨N4, 0, none⟩ vb) Any v zs := fun hz => by
    have h6 := (h3.off hz).wrote hw3 (fun r hr e => hr e)
    have h7 := (h5.off (ints_any0 h6)).wrote hw4 (fun r hr e => hr e)
    exact ints_any0 h7
  exact ⟨hq3, hv.below hq3, hB.below hq3, hw4.cell d3 (fun e => hne e), World.cell?_setCell_same _ _ _ h5.cell.1, key ha, key hb, key hr⟩
end Vw
theorem quiet_still {P : Program} {f : FuncId} {args : Array Value} {w : World} {n : Nat} {v : Value} (h : Calls P f args (w.drewN n) (Ho.Still v (w.drewN n))) : Calls P f args (w.drewN n) fun e w'' => e = .returned v ∧ ∃ m, w'' = w.drewN m :=
  h.mono fun _ _ ⟨he, hm⟩ => ⟨he, n, hm.symm⟩
theorem Ho.Ints.cellAt {w : World} {S : Home} {sp : Option Addr} {n cap : Nat} {zs : List Int} (h : Ho.Ints w S (.slice sp n cap) zs) (i : Nat) (hi : i < zs.length) : ∃ b off, sp = some ⟨b, off, none⟩ ∧ S b ∧ b < w.heap.size ∧ w.cell? ⟨b, off + i, none⟩ = some (.int .i64 (zs.getD i 0)) := by
  obtain ⟨sp', cap', e, _, hc⟩ := h
  cases e
  exact hc i hi
end Go.Proofs.Ytneibhcigbfigaa
