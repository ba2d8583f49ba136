/- A map from whole numbers to whole numbers, told by what stands under each number, if anything does. -/
import Derived.Test.YtneibhcigbfigaaIMap
namespace Go.Proofs.Ytneibhcigbfigaa
open Go.RowKit Go.Lib Fx Ho Go.Maps
set_option linter.unusedVariables false
namespace Mp
def RI : Rdr := fun v => match v with
  | .int .i64 a => some (.lit (.int .i64 a), [])
  | _ => none
theorem ri_inv {v : Value} {d : DataW Unit} {ps : List MemPlace} (h : RI v = some (d, ps)) : ∃ a, v = .int .i64 a ∧ d = .lit (.int .i64 a) ∧ ps = [] := by
  unfold RI at h
  split at h
  · cases h; exact ⟨_, rfl, rfl, rfl⟩
  · cases h
theorem lit_one {a b : Int} (h : (DataW.lit (.int .i64 a) : DataW Unit) = .lit (.int .i64 b)) : a = b := by
  injection h with h
  injection h
def zI : DataW Unit := .lit (.int .i64 0)
/-- Block b is a map of at most n entries; m tells what stands under each number, if anything does. -/
def OMap (w : World) (b n : Nat) (m : Int → Option Int) : Prop :=
  ∃ D, w.ownsMap Try.prog 3 RI b n D ∧ Maps.IsMap D ∧ ∀ k, (Lit.int .i64 k).wf = true → Maps.has D (.int .i64 k) = (m k).isSome ∧ RI (.int .i64 ((m k).getD 0)) = some (D.atKey (.int .i64 k) zI, [])
variable {w w' : World} {b n : Nat} {m : Int → Option Int} {H H' : Home}
def upo (m : Int → Option Int) (k x : Int) : Int → Option Int := fun j => if j = k then some x else m j
theorem omade (w : World) : OMap (w.alloc (.map #[] 0)) w.heap.size 0 (fun _ => none) :=
  ⟨.map [], World.ownsMap_made w _ _ _, Maps.isMap_empty, fun k hk => ⟨rfl, rfl⟩⟩
theorem OMap.lt (h : OMap w b n m) : b < w.heap.size := by obtain ⟨D, h, _⟩ := h; exact h.lt
theorem OMap.wrote (h : OMap w b n m) (ht : Wrote H w H' w') (ho : ¬ H b) : OMap w' b n m := by
  have hlt := h.lt
  obtain ⟨D, ⟨es, clock, hb, F, hs, hD⟩, h2⟩ := h
  exact ⟨D, ⟨es, clock, (ht.block b hlt ho).trans hb, F, hs, hD⟩, h2⟩
theorem OMap.below (h : OMap w b n m) (hb : Below w.heap.size w w') : OMap w' b n m := h.wrote (H := fun _ => False) (Wrote.of_below hb) (fun h => h)
theorem OMap.mono (h : OMap w b n m) {n' : Nat} (hn : n ≤ n') : OMap w b n' m := by
  obtain ⟨D, h1, h2⟩ := h
  exact ⟨D, h1.mono hn, h2⟩
theorem OMap.look (h : OMap w b n m) {t e : TypeId} (ht : Try.prog.underlying t = some (.map 3 e)) (hz : (zeroValue e).run Try.prog w = .ok (.int .i64 0) w) {k : Int} (hk : (Lit.int .i64 k).wf = true) :
    (Instr.lookup t (.map (some b)) (.int .i64 k) true).run Try.prog w = .ok (.tuple #[.int .i64 ((m k).getD 0), .bool (m k).isSome]) w := by
  obtain ⟨D, h1, _, h3⟩ := h
  obtain ⟨v, ps, hrun, hv⟩ := h1.look_ok keyd ht hz (z := .int .i64 0) (zd := zI) (zp := []) rfl (keyI hk)
  obtain ⟨e1, e2⟩ := h3 k hk
  obtain ⟨a, rfl, e3, rfl⟩ := ri_inv hv
  obtain ⟨a', e4, e5, _⟩ := ri_inv e2
  rw [hrun, e1]
  obtain ⟨x, hx⟩ : ∃ x, (m k).getD 0 = x := ⟨_, rfl⟩
  rw [hx] at e4 ⊢
  obtain rfl : x = a' := by injection e4
  obtain rfl : a = x := lit_one (e3.symm.trans e5)
  rfl
theorem OMap.look1 (h : OMap w b n m) {t e : TypeId} (ht : Try.prog.underlying t = some (.map 3 e)) (hz : (zeroValue e).run Try.prog w = .ok (.int .i64 0) w) {k : Int} (hk : (Lit.int .i64 k).wf = true) :
    (Instr.lookup t (.map (some b)) (.int .i64 k) false).run Try.prog w = .ok (.int .i64 ((m k).getD 0)) w := by
  obtain ⟨D, h1, _, h3⟩ := h
  obtain ⟨v, ps, hrun, hv⟩ := h1.lookup keyd ht hz (z := .int .i64 0) (zd := zI) (zp := []) rfl (keyI hk)
  obtain ⟨e1, e2⟩ := h3 k hk
  obtain ⟨a, rfl, e3, rfl⟩ := ri_inv hv
  obtain ⟨a', e4, e5, _⟩ := ri_inv e2
  rw [hrun]
  obtain ⟨x, hx⟩ : ∃ x, (m k).getD 0 = x := ⟨_, rfl⟩
  rw [hx] at e4 ⊢
  obtain rfl : x = a' := by injection e4
  obtain rfl : a = x := lit_one (e3.symm.trans e5)
  rfl
theorem OMap.store (h : OMap w b n m) {t e : TypeId} (ht : Try.prog.underlying t = some (.map 3 e)) (hn : n < maxLen) {k : Int} (hk : (Lit.int .i64 k).wf = true) (x : Int) :
    ∃ w', (Instr.mapUpdate t (.map (some b)) (.int .i64 k) (.int .i64 x)).run Try.prog w = .ok () w' ∧ OMap w' b (n + 1) (upo m k x) ∧ Wrote (fun k => k = b) w (fun k => k = b) w' := by
  obtain ⟨D, h1, h2, h3⟩ := h
  obtain ⟨w', hrun, r1, r2⟩ := h1.store keyd ht hn (keyI hk) (val := .int .i64 x) (d := .lit (.int .i64 x)) (ps := []) rfl
  refine ⟨w', hrun, ⟨D.put (.int .i64 k) (.lit (.int .i64 x)), r1, h2.put _ _, fun j hj => ?_⟩, Wrote.of_grown r2.grown (fun k' e => (Option.some.inj e).symm)⟩
  unfold upo
  by_cases e : j = k
  · subst e
    rw [if_pos rfl, Maps.has_put_same h2 (isKey hk), Maps.atKey_put_same h2 (isKey hk)]
    exact ⟨rfl, rfl⟩
  · rw [if_neg e, Maps.has_put_other (fun e' => e (by injection e')), Maps.atKey_put_other (fun e' => e (by injection e'))]
    exact h3 j hj
end Mp
end Go.Proofs.Ytneibhcigbfigaa
