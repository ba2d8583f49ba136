/- A map by whole numbers, told by what stands under each number. -/
import Derived.Test.YtneibhcigbfigaaHome
import Derived.Maps.OwnSet
namespace Go.Proofs.Ytneibhcigbfigaa
open Go.RowKit Go.Lib Fx Ho Go.Maps
set_option linter.unusedVariables false
namespace Mp
abbrev Rdr := Value → Option (DataW Unit × List MemPlace)
/-- A reader of elements that is one to one, and goes through no place. -/
structure Fair (R : Rdr) : Prop where
  flat : ∀ {v d ps}, R v = some (d, ps) → ps = []
  one : ∀ {u v d}, R u = some (d, []) → R v = some (d, []) → u = v
def up {α : Type} (m : Int → α) (k : Int) (x : α) : Int → α := fun j => if j = k then x else m j
theorem up_same {α : Type} (m : Int → α) (k : Int) (x : α) : up m k x k = x := if_pos rfl
theorem up_ne {α : Type} (m : Int → α) {k j : Int} (x : α) (h : j ≠ k) : up m k x j = m j := if_neg h
/-- Block b is a map of at most n entries; m tells what stands under each number, z where nothing does. -/
def IMap (R : Rdr) (z : Value) (w : World) (b n : Nat) (m : Int → Value) : Prop :=
  ∃ D zd, R z = some (zd, []) ∧ w.ownsMap Try.prog 3 R b n D ∧ Maps.IsMap D ∧ ∀ k, (Lit.int .i64 k).wf = true → R (m k) = some (D.atKey (.int .i64 k) zd, [])
variable {R : Rdr} {z : Value} {w w' : World} {b n : Nat} {m : Int → Value} {H H' : Home}
theorem keyI {k : Int} (hk : (Lit.int .i64 k).wf = true) : keyOf Try.prog 3 (.int .i64 k) = some (.int .i64 k) := keyOf_int_mk Try.underlying3 hk
theorem keyd : Keyed Try.prog 3 := int_keyed Try.underlying3
theorem made {zd : DataW Unit} (hz : R z = some (zd, [])) (w : World) : IMap R z (w.alloc (.map #[] 0)) w.heap.size 0 (fun _ => z) :=
  ⟨.map [], zd, hz, World.ownsMap_made w _ _ _, Maps.isMap_empty, fun k hk => by rw [hz]; rfl⟩
theorem IMap.lt (h : IMap R z w b n m) : b < w.heap.size := by obtain ⟨D, zd, _, h, _⟩ := h; exact h.lt
theorem IMap.wrote (h : IMap R z w b n m) (ht : Wrote H w H' w') (ho : ¬ H b) : IMap R z w' b n m := by
  have hlt := h.lt
  obtain ⟨D, zd, h0, ⟨es, clock, hb, F, hs, hD⟩, h2⟩ := h
  exact ⟨D, zd, h0, ⟨es, clock, (ht.block b hlt ho).trans hb, F, hs, hD⟩, h2⟩
theorem IMap.below (h : IMap R z w b n m) (hb : Below w.heap.size w w') : IMap R z w' b n m := h.wrote (H := fun _ => False) (Wrote.of_below hb) (fun h => h)
theorem IMap.mono (h : IMap R z w b n m) {n' : Nat} (hn : n ≤ n') : IMap R z w b n' m := by
  obtain ⟨D, zd, h0, h1, h2⟩ := h
  exact ⟨D, zd, h0, h1.mono hn, h2⟩
theorem IMap.look (h : IMap R z w b n m) (hR : Fair R) {t e : TypeId} (ht : Try.prog.underlying t = some (.map 3 e)) (hz : (zeroValue e).run Try.prog w = .ok z w) {k : Int} (hk : (Lit.int .i64 k).wf = true) :
    (Instr.lookup t (.map (some b)) (.int .i64 k) false).run Try.prog w = .ok (m k) w := by
  obtain ⟨D, zd, h0, h1, _, h3⟩ := h
  obtain ⟨v, ps, hrun, hv⟩ := h1.lookup keyd ht hz h0 (keyI hk)
  obtain rfl := hR.flat hv
  rw [hrun, hR.one hv (h3 k hk)]
theorem isKey {k : Int} (hk : (Lit.int .i64 k).wf = true) : WideAt.IsKeyLit (.int .i64 k) := keyd.key (keyI hk)
theorem IMap.store (h : IMap R z w b n m) {t e : TypeId} (ht : Try.prog.underlying t = some (.map 3 e)) (hn : n < maxLen) {k : Int} (hk : (Lit.int .i64 k).wf = true) {v : Value} {d : DataW Unit} (hv : R v = some (d, [])) :
    ∃ w', (Instr.mapUpdate t (.map (some b)) (.int .i64 k) v).run Try.prog w = .ok () w' ∧ IMap R z w' b (n + 1) (up m k v) ∧ Wrote (fun k => k = b) w (fun k => k = b) w' := by
  obtain ⟨D, zd, h0, h1, h2, h3⟩ := h
  obtain ⟨w', hrun, r1, r2⟩ := h1.store keyd ht hn (keyI hk) hv
  refine ⟨w', hrun, ⟨D.put (.int .i64 k) d, zd, h0, r1, h2.put _ _, fun j hj => ?_⟩, Wrote.of_grown r2.grown (fun k' e => (Option.some.inj e).symm)⟩
  by_cases e : j = k
  · subst e; rw [up_same, Maps.atKey_put_same h2 (isKey hk)]; exact hv
  · rw [up_ne _ _ e, Maps.atKey_put_other (fun e' => e (by injection e'))]; exact h3 j hj
theorem IMap.drop (h : IMap R z w b n m) (hR : Fair R) {t e : TypeId} (ht : Try.prog.underlying t = some (.map 3 e)) {k : Int} (hk : (Lit.int .i64 k).wf = true) (ty : TypeId) :
    ∃ w', (Builtin.delete_ #[t, 3] ty #[.map (some b), .int .i64 k]).run Try.prog w = .ok (.tuple #[]) w' ∧ IMap R z w' b n (up m k z) ∧ Wrote (fun k => k = b) w (fun k => k = b) w' := by
  obtain ⟨D, zd, h0, h1, h2, h3⟩ := h
  obtain ⟨w', hrun, r1, r2⟩ := h1.drop keyd ht (keyI hk) ty
  refine ⟨w', hrun, ⟨D.del (.int .i64 k), zd, h0, r1, h2.del _, fun j hj => ?_⟩, Wrote.of_grown r2.grown (fun k' e => (Option.some.inj e).symm)⟩
  by_cases e : j = k
  · subst e; rw [up_same, Maps.atKey_del_same]; exact h0
  · rw [up_ne _ _ e, Maps.atKey_del_other (fun e' => e (by injection e'))]; exact h3 j hj
/-- A store into the map, as the walk meets it. -/
theorem wpList_put {ops : Array Oper} {rest : List Oper} {o : Oper} {a : Act} {Q : Exit → Act → World → Prop} (hg : o.guard = none) (mm x v : Operand) (t : TypeId) (hop : o.op = Op.mapUpdate t mm x v) {e : TypeId} (ht : Try.prog.underlying t = some (.map 3 e))
    (h : IMap R z w b n m) (hm : a.eval mm = .map (some b)) (hn : n < maxLen) {k : Int} (hk : (Lit.int .i64 k).wf = true) {val : Value} {d : DataW Unit} (hx : a.eval x = .int .i64 k) (hv : a.eval v = val) (hR : R val = some (d, []))
    (hK : ∀ w', IMap R z w' b (n + 1) (up m k val) → Wrote (fun k => k = b) w (fun k => k = b) w' → wpList Try.prog ops Q rest (a.put o.dst undef) w') : wpList Try.prog ops Q (o :: rest) a w := by
  refine wpList_plain hg fun K' hK' => ?_
  obtain ⟨w', hrun, r1, r2⟩ := h.store ht hn hk hR
  unfold Oper.wp
  simp [execOp, hop, hm, hx, hv, hrun, Result.andThen]
  exact hK' _ _ (hK w' r1 r2)
end Mp
end Go.Proofs.Ytneibhcigbfigaa
