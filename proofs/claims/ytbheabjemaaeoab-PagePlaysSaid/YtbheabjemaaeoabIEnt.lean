/- Stores into a map by whole numbers in two steps (several places assigned at once): the entry first, its element later. -/
import Derived.Test.YtbheabjemaaeoabIMap
import Derived.WideKeyEntry
namespace Go.Proofs.Ytbheabjemaaeoab
open Go.RowKit Go.Lib Fx Ho Go.Maps Go.ChangeMaps Go.WideElems Go.MapKept
set_option linter.unusedVariables false
namespace Mp
variable {R : Rdr} {z : Value} {w w' : World} {b n : Nat} {m : Int → Value}
/-- The entry of the number k bears the stamp s. -/
def Ent (w : World) (b : Nat) (k : Int) (s : Nat) : Prop := ∃ (es : Array MapEntry) (c i : Nat) (e : MapEntry), w.heap[b]? = some (.map es c) ∧ es[i]? = some e ∧ e.key = .int .i64 k ∧ e.born = s
theorem Ent.of_block {k : Int} {s : Nat} (h : Ent w b k s) (hb : w'.heap[b]? = w.heap[b]?) : Ent w' b k s := by
  obtain ⟨es, c, i, e, h1, h2⟩ := h
  exact ⟨es, c, i, e, hb.trans h1, h2⟩
theorem same_key {es : Array MapEntry} {c : Nat} (h : Stamped es c) {i j : Nat} {x y : MapEntry} (hx : es[i]? = some x) (hy : es[j]? = some y) (hk : x.key = y.key) : i = j := by
  obtain ⟨_, _, h3⟩ := h
  have hi : i < es.size := by
    rcases Nat.lt_or_ge i es.size with q | q
    · exact q
    · rw [Array.getElem?_eq_none q] at hx; cases hx
  refine (List.getElem?_inj (l := es.toList.map (·.key)) (by simpa using hi) h3).1 ?_
  rw [List.getElem?_map, List.getElem?_map, Array.getElem?_toList, Array.getElem?_toList, hx, hy]
  exact congrArg some hk
theorem block_self {o : Obj} (h : w.heap[b]? = some o) : setBlock w b o = w := by
  have : w.heap.setIfInBounds b o = w.heap := by
    apply Array.ext_getElem?
    intro i
    rw [Array.getElem?_setIfInBounds]
    by_cases e : b = i
    · subst e
      rw [if_pos rfl]
      split
      · exact h.symm
      · rename_i q; rw [Array.getElem?_eq_none (by omega)] at h; cases h
    · rw [if_neg e]
  unfold setBlock
  rw [this]
theorem modify_at {es : Array MapEntry} {j : Nat} {x : MapEntry} (h : es[j]? = some x) {f g : MapEntry → MapEntry} (hf : f x = g x) : es.modify j f = es.modify j g := by
  apply Array.ext_getElem?
  intro i
  rw [Array.getElem?_modify, Array.getElem?_modify]
  by_cases e : j = i
  · subst e; rw [if_pos rfl, if_pos rfl, h]; simp [hf]
  · rw [if_neg e, if_neg e]
theorem modify_id {es : Array MapEntry} {j : Nat} {x : MapEntry} (h : es[j]? = some x) {f : MapEntry → MapEntry} (hf : f x = x) : es.modify j f = es := by
  apply Array.ext_getElem?
  intro i
  rw [Array.getElem?_modify]
  by_cases e : j = i
  · subst e; rw [if_pos rfl, h]; simp [hf]
  · rw [if_neg e]
theorem Ent.push {es : Array MapEntry} {c : Nat} {k k' : Int} {s : Nat} {x : MapEntry} {c' : Nat} (hb : w.heap[b]? = some (.map es c)) (h : Ent w b k s) : Ent (setBlock w b (.map (es.push x) c')) b k s := by
  obtain ⟨es', c0, i, e, q1, q2, q3, q4⟩ := h
  rw [hb] at q1
  cases q1
  refine ⟨_, _, i, e, heap_setBlock_same hb _, ?_, q3, q4⟩
  rw [Array.getElem?_push]
  have : i < es.size := by
    rcases Nat.lt_or_ge i es.size with q | q
    · exact q
    · rw [Array.getElem?_eq_none q] at q2; cases q2
  rw [if_neg (by omega)]; exact q2
theorem IMap.entry (h : IMap R z w b n m) (hR : Fair R) {t e : TypeId} (ht : Try.prog.underlying t = some (.map 3 e)) (hz : ∀ u : World, (zeroValue e).run Try.prog u = .ok z u) (hn : n < maxLen) {k : Int} (hk : (Lit.int .i64 k).wf = true) :
    ∃ v s w', (Instr.mapEntry t (.map (some b)) (.int .i64 k)).run Try.prog w = .ok (.tuple #[v, .int .i64 ((s : Nat) : Int)]) w' ∧ IMap R z w' b (n + 1) m ∧ Wrote (fun k => k = b) w (fun k => k = b) w' ∧ Ent w' b k s ∧ ∀ k' s', Ent w b k' s' → Ent w' b k' s' := by
  obtain ⟨D, zd, h0, h1, h2, h3⟩ := id h
  obtain ⟨es, c, hb, F, hs, hD⟩ := id h1
  rcases keyd.find w (keyI hk) es.toList F.keys with ⟨f1, f2⟩ | ⟨j, e0, f1, f2, f3⟩
  · obtain ⟨w', hrun, r1, r2⟩ := h.store ht hn hk h0
    have hup : (Instr.mapUpdate t (.map (some b)) (.int .i64 k) z).run Try.prog w = .ok () (setBlock w b (.map (es.push ⟨.int .i64 k, z, c⟩) (c + 1))) := by
      simp [Instr.mapUpdate, run_underlying ht, MapKept.run_getObj_map hb, keyd.check w false (keyI hk), f1, MapKept.run_setObj_map _ hb, Result.andThen, setBlock]
    rw [hup] at hrun
    have hw' : w' = setBlock w b (.map (es.push ⟨.int .i64 k, z, c⟩) (c + 1)) := by cases hrun; rfl
    subst hw'
    have hl := h.look hR ht (hz w) hk
    have hl2 : (Instr.lookup t (.map (some b)) (.int .i64 k) false).run Try.prog w = .ok z w := by
      have hck : ∀ em, (Instr.checkKey em 10000 3 (.int .i64 k)).run Try.prog w = .ok () w := fun em => keyd.check w em (keyI hk)
      simp [Instr.lookup, run_underlying ht, MapKept.run_getObj_map hb, hck, f1, hz, Result.andThen]
    rw [hl2] at hl
    have hmk : m k = z := by cases hl; rfl
    have hup2 : up m k z = m := by
      funext j
      unfold up
      split
      · rename_i q; rw [q, hmk]
      · rfl
    rw [hup2] at r1
    refine ⟨z, c, _, ?_, r1, r2, ⟨_, _, es.size, ⟨.int .i64 k, z, c⟩, heap_setBlock_same hb _, by simp, rfl, rfl⟩, fun k' s' hq => hq.push (k' := k) hb⟩
    simp [Instr.mapEntry, goInt, run_underlying ht, MapKept.run_getObj_map hb, keyd.check w false (keyI hk), f1, hz, MapKept.run_setObj_map _ hb, Result.andThen, setBlock]
  · have hj : es[j]? = some e0 := by simpa using f2
    have hself : es.modify j (fun x => { x with key := .int .i64 k }) = es := modify_id hj (by rw [← f3])
    refine ⟨e0.val, e0.born, w, ?_, h.mono (Nat.le_succ n), Wrote.refl _ _, ⟨es, c, j, e0, hb, hj, f3, rfl⟩, fun _ _ hq => hq⟩
    have hbs := block_self hb
    unfold setBlock at hbs
    simp [Instr.mapEntry, goInt, run_underlying ht, MapKept.run_getObj_map hb, keyd.check w false (keyI hk), f1, hj, f3, keyd.stays w (keyI hk), hself, MapKept.run_setObj_map _ hb, Result.andThen, hbs]
theorem IMap.put2 (h : IMap R z w b n m) {t e : TypeId} (ht : Try.prog.underlying t = some (.map 3 e)) (hn : n < maxLen) {k : Int} (hk : (Lit.int .i64 k).wf = true) {s : Nat} (he : Ent w b k s) {v : Value} {d : DataW Unit} (hv : R v = some (d, [])) :
    ∃ w', (Instr.entryStore t (.map (some b)) (.int .i64 ((s : Nat) : Int)) v).run Try.prog w = .ok () w' ∧ IMap R z w' b (n + 1) (up m k v) ∧ Wrote (fun k => k = b) w (fun k => k = b) w' ∧ ∀ k' s', Ent w b k' s' → Ent w' b k' s' := by
  obtain ⟨w', hrun, r1, r2⟩ := h.store ht hn hk hv
  obtain ⟨D, zd, h0, h1, h2, h3⟩ := id h
  obtain ⟨es, c, hb, F, hs, hD⟩ := id h1
  obtain ⟨es', c', i, e0, q1, q2, q3, q4⟩ := id he
  rw [hb] at q1
  cases q1
  rcases keyd.find w (keyI hk) es.toList F.keys with ⟨f1, f2⟩ | ⟨j, e1, f1, f2, f3⟩
  · exact absurd q3 (f2 e0 (by rw [← Array.getElem?_toList] at q2; exact List.mem_of_getElem? q2))
  · have hj : es[j]? = some e1 := by simpa using f2
    obtain rfl : i = j := same_key F.stamped q2 hj (by rw [q3, f3])
    rw [q2] at hj
    cases hj
    have hmod : es.modify i (fun x => { x with val := v }) = es.modify i (fun x => { x with key := .int .i64 k, val := v }) := modify_at q2 (by rw [← q3])
    have hup : (Instr.mapUpdate t (.map (some b)) (.int .i64 k) v).run Try.prog w = .ok () (setBlock w b (.map (es.modify i (fun x => { x with key := .int .i64 k, val := v })) c)) := by
      simp [Instr.mapUpdate, run_underlying ht, MapKept.run_getObj_map hb, keyd.check w false (keyI hk), f1, q2, q3, keyd.stays w (keyI hk), MapKept.run_setObj_map _ hb, Result.andThen, setBlock]
    rw [hup] at hrun
    have hw' : w' = setBlock w b (.map (es.modify i (fun x => { x with key := .int .i64 k, val := v })) c) := by cases hrun; rfl
    subst hw'
    refine ⟨_, ?_, r1, r2, fun k' s' ⟨es2, c2, i2, e2, p1, p2, p3, p4⟩ => ?_⟩
    · have hidx : es.findIdx? (fun x => ((x.born : Nat) : Int) == ((s : Nat) : Int)) = some i := by
        rw [findIdx_arr, ← q4]
        exact findIdx_born F.stamped.2.1 (by simpa using q2)
      simp [Instr.entryStore, MapKept.run_getObj_map hb, asInt, asIntOf, hidx, hmod, MapKept.run_setObj_map _ hb, Result.andThen, setBlock]
    · rw [hb] at p1
      cases p1
      by_cases q : i2 = i
      · rw [q, q2] at p2
        cases p2
        refine ⟨_, _, i, { e0 with key := .int .i64 k, val := v }, heap_setBlock_same hb _, ?_, ?_, p4⟩
        · rw [Array.getElem?_modify, if_pos rfl, q2]; rfl
        · rw [← p3, q3]
      · refine ⟨_, _, i2, e2, heap_setBlock_same hb _, ?_, p3, p4⟩
        rw [Array.getElem?_modify, if_neg (fun e => q e.symm)]; exact p2
end Mp
end Go.Proofs.Ytbheabjemaaeoab
