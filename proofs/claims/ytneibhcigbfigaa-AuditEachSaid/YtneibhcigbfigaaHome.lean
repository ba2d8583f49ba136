/- What a call may turn: the blocks of a home, and new ones; rows of whole numbers that lie apart from it; the document's own comparison of two answers that hold the same. -/
import Derived.Test.YtneibhcigbfigaaAppend
import Derived.Carry
import Derived.OpenShut
import Derived.Laws.AppendOwnNone
import Derived.Laws.Tables
namespace Go.Proofs.Ytneibhcigbfigaa
open Go.ChangeShapes Go.WideShapes Go.WideElems Go.RowKit Go.Lib Fx
set_option linter.unusedVariables false

namespace Ho
/-- The call answers v, and leaves the world as it was. -/
def Still (v : Value) (w : World) (e : Ending) (w' : World) : Prop := e = .returned v ∧ w = w'
/-- Blocks that an object owns. -/
abbrev Home := Nat → Prop
/-- Outside the home H nothing of what there was has turned; the home is H' now, which is of H's blocks and new ones. -/
structure Wrote (H : Home) (w : World) (H' : Home) (w' : World) : Prop where
  os : w'.os = w.os
  tape : w'.tape = w.tape
  output : w'.output = w.output
  size : w.heap.size ≤ w'.heap.size
  block : ∀ k, k < w.heap.size → ¬ H k → w'.heap[k]? = w.heap[k]?
  home : ∀ k, H' k → H k ∨ w.heap.size ≤ k
def Low (lo : Nat) (H : Home) : Prop := ∀ k, H k → lo ≤ k
/-- Nothing of it lies in H. -/
def Off (S H : Home) : Prop := ∀ k, S k → H k → False
variable {H H' H2 S : Home} {a b c w w' : World} {lo : Nat}
theorem Wrote.refl (H : Home) (w : World) : Wrote H w H w := ⟨rfl, rfl, rfl, Nat.le_refl _, fun _ _ _ => rfl, fun _ h => Or.inl h⟩
theorem Wrote.trans (h : Wrote H a H' b) (k : Wrote H' b H2 c) : Wrote H a H2 c :=
  ⟨k.os.trans h.os, k.tape.trans h.tape, k.output.trans h.output, Nat.le_trans h.size k.size,
   fun i hi ho => (k.block i (Nat.lt_of_lt_of_le hi h.size) (fun h' => (h.home i h').elim ho (fun h2 => by omega))).trans (h.block i hi ho),
   fun i hi => (k.home i hi).elim (fun h' => h.home i h') (fun h2 => Or.inr (Nat.le_trans h.size h2))⟩
theorem Wrote.same (h : Wrote H a H' b) (hs : ∀ k, H2 k → H' k) : Wrote H a H2 b := ⟨h.os, h.tape, h.output, h.size, h.block, fun k hk => h.home k (hs k hk)⟩
theorem Wrote.of_below (h : Below a.heap.size a b) : Wrote H a H b := ⟨h.os, h.tape, h.output, h.size, fun k hk _ => h.block k hk, fun _ h => Or.inl h⟩
/-- What is made is a home of new blocks. -/
theorem Wrote.of_made (h : Below a.heap.size a b) (hl : Low a.heap.size H') : Wrote H a H' b := ⟨h.os, h.tape, h.output, h.size, fun k hk _ => h.block k hk, fun k hk => Or.inr (hl k hk)⟩
theorem Wrote.drewN (h : Wrote H a H' b) (n : Nat) : Wrote H a H' (b.drewN n) := h.trans ⟨rfl, rfl, rfl, Nat.le_refl _, fun _ _ _ => rfl, fun _ h => Or.inl h⟩
theorem Wrote.of_grown {row : Option Nat} (hg : a.grownBy b row) (hr : ∀ k, row = some k → H k) : Wrote H a H b :=
  ⟨hg.os, hg.tape, hg.output, hg.size, fun k hk ho => hg.block k hk (fun e => ho (hr k e.symm)), fun _ h => Or.inl h⟩
theorem Wrote.low (h : Wrote H a H' b) (hl : Low lo H) (hs : lo ≤ a.heap.size) : Low lo H' := fun k hk => (h.home k hk).elim (hl k) (fun h2 => Nat.le_trans hs h2)
theorem Wrote.below {W : World} (h : Wrote H a H' b) (hl : Low W.heap.size H) (hb : Below W.heap.size W a) : Below W.heap.size W b :=
  ⟨h.os.trans hb.os, h.tape.trans hb.tape, h.output.trans hb.output, Nat.le_trans hb.size h.size, fun k hk => (h.block k (Nat.lt_of_lt_of_le hk hb.size) (fun h' => by have := hl k h'; omega)).trans (hb.block k hk)⟩
theorem Wrote.cell {p : Addr} {v : Value} (h : Wrote H a H' b) (hc : a.cell? p = some v) (ho : ¬ H p.block) : b.cell? p = some v := by
  rw [World.cell?_of_block (h.block p.block (World.block_lt_of_cell? a _ hc) ho)]; exact hc
/-- A home apart from the one that was written, all of it there before, stays apart. -/
theorem Wrote.off (h : Wrote H a H' b) (ho : Off S H) (hs : ∀ k, S k → k < a.heap.size) : Off S H' := fun k hk h' => (h.home k h').elim (ho k hk) (fun h2 => by have := hs k hk; omega)
theorem low_off {S : Home} (hl : Low lo H) (hs : ∀ k, S k → k < lo) : Off S H := fun k hk h => by have := hl k h; have := hs k hk; omega
theorem block_lt {W : World} {p : Nat} {o : Obj} (h : W.heap[p]? = some o) : p < W.heap.size := by
  rcases Nat.lt_or_ge p W.heap.size with h' | h'
  · exact h'
  · rw [Array.getElem?_eq_none h'] at h; cases h
theorem addr_add (b off j : Nat) : (⟨b, off, none⟩ : Addr).add j = ⟨b, off + j, none⟩ := by
  unfold Addr.add
  by_cases h : j = 0
  · rw [if_pos h, h]; rfl
  · rw [if_neg h]

theorem wpList_built {P : Program} {ops : Array Oper} {rest : List Oper} {o : Oper} {a : Act} {w : World} {Q : Exit → Act → World → Prop} (hg : o.guard = none) (t : TypeId) (parts : Array (Nat × Operand)) (ho : o.op = .build t parts)
    (cs : Array Value) (hc : P.built t (parts.map fun (i, x) => (i, a.eval x)).toList = some cs) (h : wpList P ops Q rest (a.put o.dst (.agg cs)) w) : wpList P ops Q (o :: rest) a w :=
  wpList_build hg t parts ho (by rw [hc]; rfl) (by rw [hc]; exact h)

theorem below_setRow {B : Nat} {a w : World} (h : Below B a w) {g : Nat} (hg : B ≤ g) (cs : Array Value) : Below B a (w.setRow g cs) :=
  h.trans ⟨rfl, rfl, rfl, by simp, fun k hk => setRow_other w g k cs (by omega)⟩

/-- Whole numbers as the cells of a slice. -/
def cells (zs : List Int) : List Value := zs.map (Value.int .i64)
theorem cells_app (A B : List Int) : cells (A ++ B) = cells A ++ cells B := List.map_append
theorem cells_len (A : List Int) : (cells A).length = A.length := List.length_map ..
theorem cells_one (zs : List Int) : ∀ u ∈ cells zs, u.oneCell' = true := ints_oneCell .i64 zs

theorem cell_of {W : World} {N j : Nat} {A : Array Value} {x : Value} {t : TypeId} {q : Nat × Nat} (h : W.heap[N]? = some (.cells A t q)) (hj : A[j]? = some x) : W.cell? ⟨N, j, none⟩ = some x := by
  unfold World.cell?
  show (match W.heap[N]? with | some (.cells c _ _) => _ | _ => _) = _
  rw [h]; exact hj
theorem news_one (w : World) (x : Value) (t : TypeId) : ∀ j u, ([x] : List Value)[j]? = some u → (w.alloc (.cells #[x] t)).cell? ((⟨w.heap.size, 0, none⟩ : Addr).add j) = some u := fun j u hj => by
  cases j with
  | zero =>
    simp at hj
    subst hj
    exact cell_of (heap_alloc_new _ _) rfl
  | succ j => simp at hj
theorem own_slice {base n size : Nat} {e : TypeId} {v : Value} {xs : List Value} (h : w.ownsRow base e size v n xs) : ∃ sp cap, v = .slice sp n cap := by
  rcases h.2 with ⟨rfl, rfl⟩ | ⟨g, cap, cur, rfl, _⟩
  · exact ⟨none, 0, rfl⟩
  · exact ⟨_, cap, rfl⟩
/-- A row that is owned, one of its places asked: where it lies. -/
theorem own_at {base n : Nat} {e : TypeId} {v : Value} {zs : List Int} (h : w.ownsRow base e 1 v n (cells zs)) {i : Nat} (hi : i < n) :
    ∃ g cap, v = .slice (some ⟨g, 0, none⟩) n cap ∧ n ≤ cap ∧ g < w.heap.size ∧ w.cell? ⟨g, i, none⟩ = some (.int .i64 (zs.getD i 0)) ∧ w.frozen? ⟨g, i, none⟩ = false := by
  have hl : zs.length = n := by have := h.1; rw [cells_len] at this; omega
  rcases h.2 with ⟨rfl, rfl⟩ | ⟨g, cap, cur, rfl, h1, h2, h3, h4, _⟩
  · omega
  · refine ⟨g, cap, rfl, h3, block_lt h2, ?_, h.frozenAt i⟩
    rw [h.cellAt i (by omega)]
    unfold cells
    rw [List.getElem?_map, List.getD_eq_getElem?_getD, List.getElem?_eq_getElem (by omega)]; rfl
theorem cells_set (zs : List Int) (i : Nat) (x : Int) : (cells zs).set i (.int .i64 x) = cells (zs.set i x) := by unfold cells; rw [List.map_set]
theorem wrote_setCell {H : Home} {w W : World} {a : Addr} {u : Value} (hh : W.heap = (w.setCell a u).heap) (ho : W.os = w.os) (ht : W.tape = w.tape) (hu : W.output = w.output) (ha : H a.block) : Wrote H w H W :=
  ⟨ho, ht, hu, by rw [hh]; simp [World.setCell], fun k _ hk => by rw [hh]; exact Below.heap_setCell _ _ _ _ (fun e => hk (e ▸ ha)), fun _ h => Or.inl h⟩

/-- The slice v holds the numbers zs, in a block of S (where it holds any). -/
def Ints (w : World) (S : Home) (v : Value) (zs : List Int) : Prop :=
  ∃ sp cap, v = .slice sp zs.length cap ∧ zs.length ≤ 9223372036854775807 ∧ ∀ i, i < zs.length → ∃ b off, sp = some ⟨b, off, none⟩ ∧ S b ∧ b < w.heap.size ∧ w.cell? ⟨b, off + i, none⟩ = some (.int .i64 (zs.getD i 0))
theorem Ints.wider {v : Value} {zs : List Int} {S' : Home} (h : Ints w S v zs) (hs : ∀ k, S k → k < w.heap.size → S' k) : Ints w S' v zs := by
  obtain ⟨sp, cap, e, h1, h2⟩ := h
  refine ⟨sp, cap, e, h1, fun i hi => ?_⟩
  obtain ⟨b, off, e2, h3, h4, h5⟩ := h2 i hi
  exact ⟨b, off, e2, hs b h3 h4, h4, h5⟩
theorem Ints.wrote {v : Value} {zs : List Int} (h : Ints a S v zs) (ht : Wrote H a H' b) (ho : Off S H) : Ints b S v zs := by
  obtain ⟨sp, cap, e, h1, h2⟩ := h
  refine ⟨sp, cap, e, h1, fun i hi => ?_⟩
  obtain ⟨b, off, e2, h3, h4, h5⟩ := h2 i hi
  exact ⟨b, off, e2, h3, Nat.lt_of_lt_of_le h4 ht.size, ht.cell h5 (fun h' => ho b h3 h')⟩
theorem Ints.below {v : Value} {zs : List Int} (h : Ints a S v zs) (hb : Below a.heap.size a b) : Ints b S v zs :=
  h.wrote (H := fun _ => False) (Wrote.of_below hb) (fun _ _ h => h)
theorem ints_nil (w : World) (S : Home) : Ints w S (.slice none 0 0) [] := ⟨none, 0, rfl, by simp, fun i hi => by simp at hi⟩
theorem ints_of_owns {base n : Nat} {v : Value} {zs : List Int} (h : w.ownsRow base 3 1 v n (cells zs)) : Ints w (fun k => v.ownBlock = some k) v zs := by
  have hn : zs.length = n := by have := h.1; rw [cells_len] at this; omega
  have h0 := h
  rcases h.2 with ⟨rfl, h2⟩ | ⟨g, cap, cur, rfl, h1, h2, h3, h4, _⟩
  · obtain rfl : zs = [] := List.eq_nil_of_length_eq_zero (by omega)
    exact ints_nil _ _
  · refine ⟨_, cap, by rw [hn], by unfold maxLen at h4; omega, fun i hi => ⟨g, 0, rfl, rfl, block_lt h2, ?_⟩⟩
    have e := h0.cells (g := g) rfl i (.int .i64 (zs.getD i 0)) (by
      unfold cells
      rw [List.getElem?_map, List.getD_eq_getElem?_getD, List.getElem?_eq_getElem hi]; rfl)
    rwa [addr_add] at e

set_option maxRecDepth 100000 in
set_option maxHeartbeats 1000000 in
theorem ints_any {w : World} {S S2 : Home} {v v2 : Value} {zs : List Int} (h : Ints w S v zs) (h2 : Ints w S2 v2 zs) : Calls Try.prog 19 #[v, v2] w (Ans (.bool true) w) := by
  obtain ⟨sp, cap, rfl, hm, hc⟩ := h
  obtain ⟨sp2, cap2, rfl, _, hc2⟩ := h2
  obtain ⟨m, hme⟩ : ∃ m, zs.length = m := ⟨_, rfl⟩
  rw [hme] at hm hc hc2 ⊢
  have hc : Hid _ := hc
  have hc2 : Hid _ := hc2
  go_enter Try.func19, Try.ntmps19
  go_wp2_with fail
  go_loopw [5] (fun u wr => ∃ i : Nat, u = .int .i64 i ∧ i ≤ m ∧ ∃ c, wr = w.drewN c) (fun u _ => (m - (intOf u).toNat))
  case atStart => exact ⟨0, rfl, by omega, 0, rfl⟩
  case round =>
    obtain ⟨i, rfl, i1, c, rfl⟩ := hrel
    by_cases hi : i < m
    · obtain ⟨b1, o1, rfl, _, _, k1⟩ := hc.out i hi
      obtain ⟨b2, o2, rfl, _, _, k2⟩ := hc2.out i hi
      have i2 : (i : Int) < (m : Int) := by omega
      have i0 : (0 : Int) ≤ (i : Int) := by omega
      generalize zs.getD i 0 = x at *
      go_wp2_with fail
      go_quiet (fail)
      go_wp2_with fail
      go_roundw
      case rel => exact ⟨i + 1, by go_num, by omega, _, rfl⟩
      case measure => simp [intOf]; omega
    · obtain rfl : m = i := by omega
      go_wp2_with fail
      go_ret
      exact ⟨rfl, _, rfl⟩

/-- The slice v, an argument, holds the numbers zs. -/
def Arg (w : World) (v : Value) (zs : List Int) : Prop := Ints w (fun k => k < w.heap.size) v zs ∧ ∀ z ∈ zs, (Lit.int .i64 z).wf = true
section
variable {E : Type} {enc : TypeId × Value → E}
set_option maxRecDepth 100000 in
theorem arg_ints {W : World} {base : Nat} {v : Value} {d : DataW E} {p : List MemPlace} (hval : Value.okWide Try.prog W .any base 23 v) (h : DataW.Trod enc Try.prog W 0 (fun _ => true) true 23 v d p) : ∃ zs, Ints W (fun k => k < W.heap.size) v zs := by
  obtain ⟨a0, len, cap, rfl⟩ := okWide_slice Try.underlying23 hval
  obtain ⟨fuel, hf⟩ := h
  rcases open_ints Try.underlying23 Try.underlying3 (by kernel_rfl) hf with ⟨hcs, _⟩ | ⟨a, len', cap', zs, hcs, _, hl, hm, hz, _, hcell, _⟩
  · simp [Value.cells] at hcs
    obtain ⟨rfl, rfl, rfl⟩ := hcs
    exact ⟨[], none, 0, rfl, by simp, fun i hi => by simp at hi⟩
  · simp [Value.cells] at hcs
    obtain ⟨rfl, rfl, rfl⟩ := hcs
    simp only [if_true] at hz
    by_cases h0 : len = 0
    · subst h0; exact ⟨[], some a, cap, rfl, by simp, fun i hi => by simp at hi⟩
    · obtain ⟨b, off, spot⟩ := a
      have hspot : spot = none := by simpa [Addr.add] using World.cell?_spot (hcell 0 (by omega))
      subst hspot
      have hlen : (zs.take len).length = len := by rw [List.length_take]; omega
      have hb := World.block_lt_of_cell? W _ (hcell 0 (by omega))
      refine ⟨zs.take len, some ⟨b, off, none⟩, cap, by rw [hlen], by rw [hlen]; unfold maxLen at hm; omega, fun i hi => ⟨b, off, rfl, hb, hb, ?_⟩⟩
      rw [hlen] at hi
      rw [← addr_add, hcell i (by omega)]
      simp [List.getD, hi]
/-- What the row asks behind the call, the arguments read again by what they read as before. -/
theorem post_of_kept {P : Program} {f : Func} {s : ChangeSpec} {apart fresh handsOn : Bool} {W W' : World} {args : Array Value} {v : Value} {ds gs : List (DataW E)} {before pa pv : List MemPlace}
    (hW : DataW.Whole enc P f.params.toList s.vars apart W args.toList ds gs before)
    (hres : ∀ (b : Nat) (sp : Nat → Bool) (hd : Bool), DataW.TrodAll enc P W' b sp hd f.resultTypes.toList (v.resultList f.resultTypes.size) (s.fn E (ds ++ gs)).results [])
    (hargs : DataW.TrodAll enc P W' 0 (fun b => decide (b < W.heap.size)) true f.params.toList args.toList (s.fn E (ds ++ gs)).args pa)
    (hvars : ∀ sp : Nat → Bool, (∀ p ∈ before, sp p.block = true) → DataW.TrodVars enc P W' sp s.vars (s.fn E (ds ++ gs)).vars pv)
    (hps : before = pa ++ pv) (hb : Below W.heap.size W W') :
    s.post enc P f apart fresh handsOn false W args v W' := by
  have hold : ∀ p ∈ before, (fun b => decide (b < W.heap.size)) p.block = true := fun p hp => by simpa using hW.lt p hp
  refine ⟨ds, gs, before, [], pa, pv, hW, hres _ _ _, hargs, hvars _ hold, World.keptBut_mono (fun p hp => ⟨hp, ?_⟩) (hb.frame (· ∈ before)), fun h => by cases h⟩
  rw [hps, List.mem_append] at hp
  exact Or.inr hp
end
theorem laidOut : laidOutB Try.prog = true := by kernel_rfl
theorem infoI : (Try.prog.info? 3).map (fun i => (i.zero, i.size, i.bytes)) = some (some (.int .i64 0), 1, 8) := by kernel_rfl
end Ho
end Go.Proofs.Ytneibhcigbfigaa
