import Derived.Test.YtdhkakjiahkjnaaDoorMA6
/- The model: Do. -/
namespace Go.Proofs.YtdhkakjiahkjnaaDoor
open Go.RowKit Go.Lib Fx Ho Gr
set_option linter.unusedVariables false
namespace Md
open Cd (Ins zi ca c4)
variable {B w w' : World} {fs : List (List Ins)} {p : Nat} {q q' : Pl} {M M' : Mo} {H H' : Home} {g a b c n i op nf len : Nat} {r : Gor}
theorem m_mov (h : IsM B w fs p q M) (hg : g < M.st.length) (t : Int) (hm : St.mayB (M.st.getD g 0) t = true) : Calls Tryd.prog 13 #[.pointer (some ⟨q.ps, 0, none⟩), .int .i64 g, .int .i64 t] w fun e w' => e = .returned (.int .i64 0) ∧ ∃ sv, Tn B w fs p q w' { q with sv := sv } { M with st := M.st.set g t } :=
  (St.move_ok g t hg hm w h.p1).mono fun e w' ⟨he, v', hw, hs⟩ => ⟨he, v', tn_of 1 h.bel.size ⟨rfl, rfl, rfl⟩ (by omega) hw (h.setS hw hs) (fun j k hj hn hk => by
      rcases (show j = 0 ∨ j = 1 ∨ j = 2 ∨ j = 3 ∨ j = 4 ∨ j = 5 ∨ j = 6 ∨ j = 7 by omega) with rfl | rfl | rfl | rfl | rfl | rfl | rfl | rfl <;> first | exact hk | exact absurd rfl hn)⟩
/-- A call of a bound method: the model goes ahead. -/
theorem step_bound {P : Program} {ops : Array Oper} {o : Oper} {a : Act} {w : World} {K : Act → World → Prop} {Q : Exit → Act → World → Prop} {E : Prop} {post : Ending → World → Prop} (hgd : o.guard = none) (xo x1 x2 : Operand) {ts : Array TypeId} (ho : o.op = .call { callee := .value xo, args := #[x1, x2], argTypes := ts }) (F : FuncId) (m v1 v2 : Value) (hx : a.eval xo = .func (.func F) #[m] #[]) (ha1 : a.eval x1 = v1) (ha2 : a.eval x2 = v2) (hcf : (callFunc F #[m, v1, v2]).run P w = .ok (.enter F #[m, v1, v2]) w)
    (hc : Calls P F #[m, v1, v2] w post) (hK : ∀ e w', post e w' → ∃ v, e = .returned v ∧ K (a.put o.dst v) w') : if Region.wanted o (yielded ops a.tmps) = true then Oper.wp P o a w K Q else E := by
  have hw : Region.wanted o (yielded ops a.tmps) = true := by simp [Region.wanted, hgd]
  rw [if_pos hw]
  unfold Oper.wp
  have hrun : (execOp a.eval o).run P w = .ok (.enter F #[m, v1, v2]) w := by
    simp [execOp, ho, resolve, invoke, Deferred.ofValue, hcf, hx, ha1, ha2]
  rw [hrun, Oper.upon_enter]
  refine hc.mono fun e w'' hh => ?_
  obtain ⟨v, rfl, h⟩ := hK _ _ hh
  exact h
theorem do_at (p : Nat) (h : op < 18) : (doCells p)[op]? = some (.func (.func (opF.getD op 0)) #[.pointer (some ⟨p, 0, none⟩)] #[]) := by
  rcases (show op = 0 ∨ op = 1 ∨ op = 2 ∨ op = 3 ∨ op = 4 ∨ op = 5 ∨ op = 6 ∨ op = 7 ∨ op = 8 ∨ op = 9 ∨ op = 10 ∨ op = 11 ∨ op = 12 ∨ op = 13 ∨ op = 14 ∨ op = 15 ∨ op = 16 ∨ op = 17 by omega) with rfl | rfl | rfl | rfl | rfl | rfl | rfl | rfl | rfl | rfl | rfl | rfl | rfl | rfl | rfl | rfl | rfl | rfl <;> rfl
set_option maxRecDepth 100000 in
theorem op_cf (h : op < 18) : ∀ (m v1 v2 : Value) (W : World), (callFunc (opF.getD op 0) #[m, v1, v2]).run Tryd.prog W = .ok (.enter (opF.getD op 0) #[m, v1, v2]) W := by
  intro m v1 v2 W
  rcases (show op = 0 ∨ op = 1 ∨ op = 2 ∨ op = 3 ∨ op = 4 ∨ op = 5 ∨ op = 6 ∨ op = 7 ∨ op = 8 ∨ op = 9 ∨ op = 10 ∨ op = 11 ∨ op = 12 ∨ op = 13 ∨ op = 14 ∨ op = 15 ∨ op = 16 ∨ op = 17 by omega) with rfl | rfl | rfl | rfl | rfl | rfl | rfl | rfl | rfl | rfl | rfl | rfl | rfl | rfl | rfl | rfl | rfl | rfl <;> rfl
/-- Behind the instruction: the model, the commit and its room, the outcome. -/
structure Dn (B w : World) (fs : List (List Ins)) (p : Nat) (q : Pl) (wx : World) (q5 : Pl) (M2 : Mo) (N N2 N3 : Nat) (C2 : Array Value) (v ts : Int) (ft : Bool) : Prop where
  t : Tn B w fs p q wx q5 M2
  k0 : wx.heap[N]? = some (.cells #[.int .i64 0, .int .i64 0, .int .i64 0, .int .i64 0, .int .i64 0, .bool false] 31 (0, 0))
  k2 : wx.heap[N2]? = some (.cells C2 31 (0, 0))
  k3 : wx.heap[N3]? = some (.cells #[.int .i64 v, .int .i64 ts, .bool ft] 59 (0, 0))
  n0 : ∀ i k, i < 8 → hm p q5 i k → k ≠ N
  n2 : ∀ i k, i < 8 → hm p q5 i k → k ≠ N2
  n3 : ∀ i k, i < 8 → hm p q5 i k → k ≠ N3
theorem dn_a {W4 w5 : World} {q3 q5 : Pl} {M1 M2 : Mo} {N N2 : Nat} {C2 : Array Value} {v ts : Int} {ft : Bool} (h6 : Tn B w fs p q W4 q3 M1) (h7 : Tn B W4.drew fs p q3 w5 q5 M2) (n0 : ∀ i k, i < 8 → hm p q3 i k → k ≠ N) (n2 : ∀ i k, i < 8 → hm p q3 i k → k ≠ N2) (k0 : W4.heap[N]? = some (.cells #[.int .i64 0, .int .i64 0, .int .i64 0, .int .i64 0, .int .i64 0, .bool false] 31 (0, 0))) (k2 : W4.heap[N2]? = some (.cells C2 31 (0, 0))) :
    Dn B w fs p q (w5.alloc (.cells #[.int .i64 v, .int .i64 ts, .bool ft] 59)) q5 M2 N N2 w5.heap.size C2 v ts ft := by
  obtain ⟨a0, b0⟩ := h7.free n0 (block_lt k0)
  obtain ⟨a2, b2⟩ := h7.free n2 (block_lt k2)
  have hb := below_alloc (Below.refl w5.heap.size w5) (.cells #[.int .i64 v, .int .i64 ts, .bool ft] 59)
  have k0' := b0.trans k0
  have k2' := b2.trans k2
  exact ⟨((h6.more (Below.refl _ _).drew).trans h7).more hb, (hb.block _ (block_lt k0')).trans k0', (hb.block _ (block_lt k2')).trans k2', heap_alloc_new _ _, a0, a2, fun i k hi hk => by have := (h7.is.ap.low i k hi hk).2; omega⟩
theorem dn_b {W4 w5 : World} {q3 q5 : Pl} {M1 M2 : Mo} {N N2 : Nat} {C2 : Array Value} {v ts : Int} {ft : Bool} (h6 : Tn B w fs p q W4 q3 M1) (h7 : Tn B (W4.alloc (.cells #[.int .i64 0, .int .i64 0, .bool false] 59)).drew fs p q3 w5 q5 M2) (n0 : ∀ i k, i < 8 → hm p q3 i k → k ≠ N) (n2 : ∀ i k, i < 8 → hm p q3 i k → k ≠ N2) (k0 : W4.heap[N]? = some (.cells #[.int .i64 0, .int .i64 0, .int .i64 0, .int .i64 0, .int .i64 0, .bool false] 31 (0, 0))) (k2 : W4.heap[N2]? = some (.cells C2 31 (0, 0))) :
    Dn B w fs p q (((w5.setCell ⟨W4.heap.size, 0, none⟩ (.int .i64 v)).setCell ⟨W4.heap.size, 1, none⟩ (.int .i64 ts)).setCell ⟨W4.heap.size, 2, none⟩ (.bool ft)) q5 M2 N N2 W4.heap.size C2 v ts ft := by
  have bO := below_alloc (Below.refl W4.heap.size W4) (.cells #[.int .i64 0, .int .i64 0, .bool false] 59)
  have kO : (W4.alloc (.cells #[.int .i64 0, .int .i64 0, .bool false] 59)).drew.heap[W4.heap.size]? = some (.cells #[.int .i64 0, .int .i64 0, .bool false] 59 (0, 0)) := heap_alloc_new W4 (.cells #[.int .i64 0, .int .i64 0, .bool false] 59)
  have hl0 := block_lt k0
  have hl2 := block_lt k2
  have hlO := block_lt kO
  have hnO : ∀ i k, i < 8 → hm p q3 i k → k ≠ W4.heap.size := fun i k hi hk => by have := (h6.is.ap.low i k hi hk).2; omega
  obtain ⟨a0, b0⟩ := h7.free n0 (by omega)
  obtain ⟨a2, b2⟩ := h7.free n2 (by omega)
  obtain ⟨a3, b3⟩ := h7.free hnO hlO
  have k0' := b0.trans ((bO.drew.block _ hl0).trans k0)
  have k2' := b2.trans ((bO.drew.block _ hl2).trans k2)
  have k3' := b3.trans kO
  have e0 := heap_setCell_same w5 W4.heap.size 0 _ _ (.int .i64 v) k3'
  have e1 := heap_setCell_same _ W4.heap.size 1 _ _ (.int .i64 ts) e0
  have e2 := heap_setCell_same _ W4.heap.size 2 _ _ (.bool ft) e1
  have u0 : ∀ (V : World) (j : Nat) (z : Value), Wrote (fun k => k = W4.heap.size) V (fun k => k = W4.heap.size) (V.setCell ⟨W4.heap.size, j, none⟩ z) := fun V j z => wrote_setCell (a := ⟨W4.heap.size, j, none⟩) rfl rfl rfl rfl rfl
  have hw := ((u0 w5 0 (.int .i64 v)).trans (u0 _ 1 (.int .i64 ts))).trans (u0 _ 2 (.bool ft))
  exact ⟨((h6.more bO.drew).trans h7).bes hw h6.size a3, (hw.block N (block_lt k0') (fun e => by have e : N = W4.heap.size := e; omega)).trans k0', (hw.block N2 (block_lt k2') (fun e => by have e : N2 = W4.heap.size := e; omega)).trans k2', e2, a0, a2, a3⟩
/-- The commit is whole. -/
structure Cn (B w : World) (fs : List (List Ins)) (p : Nat) (q : Pl) (wx : World) (q5 : Pl) (M2 : Mo) (N N2 : Nat) (C2 : Array Value) : Prop where
  t : Tn B w fs p q wx q5 M2
  k0 : wx.heap[N]? = some (.cells #[.int .i64 0, .int .i64 0, .int .i64 0, .int .i64 0, .int .i64 0, .bool false] 31 (0, 0))
  k2 : wx.heap[N2]? = some (.cells C2 31 (0, 0))
  n0 : ∀ i k, i < 8 → hm p q5 i k → k ≠ N
theorem cn_of {w7 W9 : World} {q7 : Pl} {M7 : Mo} {N N2 : Nat} {C3 : Array Value} (h : Tn B w fs p q w7 q7 M7) (n0 : ∀ i k, i < 8 → hm p q7 i k → k ≠ N) (n2 : ∀ i k, i < 8 → hm p q7 i k → k ≠ N2) (hN : N ≠ N2) (hl : w.heap.size ≤ N2) (k0 : w7.heap[N]? = some (.cells #[.int .i64 0, .int .i64 0, .int .i64 0, .int .i64 0, .int .i64 0, .bool false] 31 (0, 0))) (hw : Wrote (fun k => k = N2) w7 (fun k => k = N2) W9) (k2 : W9.heap[N2]? = some (.cells C3 31 (0, 0))) : Cn B w fs p q W9.drew q7 M7 N N2 C3 :=
  ⟨(h.bes hw hl n2).more (Below.refl _ _).drew, (hw.block N (block_lt k0) (fun e => hN e)).trans k0, k2, n0⟩
theorem cn_a {w7 : World} {q7 : Pl} {M7 : Mo} {N N2 : Nat} {x0 x1 x2 x3 v : Int} {y4 y5 : Value} {ft : Bool} (h : Tn B w fs p q w7 q7 M7) (n0 : ∀ i k, i < 8 → hm p q7 i k → k ≠ N) (n2 : ∀ i k, i < 8 → hm p q7 i k → k ≠ N2) (hN : N ≠ N2) (hl : w.heap.size ≤ N2) (k0 : w7.heap[N]? = some (.cells #[.int .i64 0, .int .i64 0, .int .i64 0, .int .i64 0, .int .i64 0, .bool false] 31 (0, 0))) (k2 : w7.heap[N2]? = some (.cells #[.int .i64 x0, .int .i64 x1, .int .i64 x2, .int .i64 x3, y4, y5] 31 (0, 0))) : Cn B w fs p q ((w7.setCell ⟨N2, 4, none⟩ (.int .i64 v)).setCell ⟨N2, 5, none⟩ (.bool ft)).drew q7 M7 N N2 #[.int .i64 x0, .int .i64 x1, .int .i64 x2, .int .i64 x3, .int .i64 v, .bool ft] ∧ Cn B w fs p q ((w7.setCell ⟨N2, 5, none⟩ (.bool ft)).setCell ⟨N2, 4, none⟩ (.int .i64 v)).drew q7 M7 N N2 #[.int .i64 x0, .int .i64 x1, .int .i64 x2, .int .i64 x3, .int .i64 v, .bool ft] := by
  have u0 : ∀ (V : World) (j : Nat) (z : Value), Wrote (fun k => k = N2) V (fun k => k = N2) (V.setCell ⟨N2, j, none⟩ z) := fun V j z => wrote_setCell (a := ⟨N2, j, none⟩) rfl rfl rfl rfl rfl
  exact ⟨cn_of h n0 n2 hN hl k0 ((u0 w7 4 (.int .i64 v)).trans (u0 _ 5 (.bool ft))) (heap_setCell_same _ N2 5 _ _ (.bool ft) (heap_setCell_same w7 N2 4 _ _ (.int .i64 v) k2)), cn_of h n0 n2 hN hl k0 ((u0 w7 5 (.bool ft)).trans (u0 _ 4 (.int .i64 v))) (heap_setCell_same _ N2 4 _ _ (.int .i64 v) (heap_setCell_same w7 N2 5 _ _ (.bool ft) k2))⟩
set_option maxRecDepth 100000 in
set_option maxHeartbeats 4000000 in
theorem do_any (h : IsM B w fs p q M) (hg : g < M.gs.length) (hr : M.gs.getD g g0 = r) (hgs : g < M.st.length) (hs1 : M.st.getD g 0 = 1) (hf : r.f < fs.length) (hpc : r.pc ≤ 1000) (hx : nextI fs r = ((op : Int), (a : Int), (b : Int), (c : Int)))
    {M1 : Mo} (hM1 : M1 = { M with st := M.st.set g 2, gs := M.gs.set g { r with pc := r.pc + 1 } }) (hF1 : Fit M1 g) (hfit : fitN M1.gl.length nf len op a b c) {M2 : Mo} {v ts : Int} {ft : Bool} (hD : doI M1 g op a b c = (M2, v, ts, ft)) (hg2 : g < M2.st.length) (hmv : St.mayB (M2.st.getD g 0) ts = true) :
    Calls Tryd.prog 6 #[.pointer (some ⟨p, 0, none⟩), .int .i64 g] w (Mt (.tuple #[comV g r.f r.pc op v ft, .int .i64 0]) B w fs p q { M2 with st := M2.st.set g ts }) := by
  have hbU := below_alloc (Below.refl w.heap.size w) (.cells #[.int .i64 0, .int .i64 0, .int .i64 0, .int .i64 0, .int .i64 0, .bool false] 31)
  have kI := heap_alloc_new w (.cells #[.int .i64 0, .int .i64 0, .int .i64 0, .int .i64 0, .int .i64 0, .bool false] 31)
  obtain ⟨U, hU⟩ : ∃ U, w.alloc (.cells #[.int .i64 0, .int .i64 0, .int .i64 0, .int .i64 0, .int .i64 0, .bool false] 31) = U := ⟨_, rfl⟩
  rw [hU] at kI hbU
  have hMU := h.below hbU
  have cs := state_yes hMU hgs
  rw [hs1] at cs
  have cn := next_any hMU hg hr hgs hs1 (by decide) (by decide) hf hx
  have hT := Lib.hid (tn_below h hbU)
  have hn0 : Hid (∀ i k, i < 8 → hm p q i k → k ≠ w.heap.size) := Lib.hid fun i k hi hk => by have := (h.ap.low i k hi hk).2; omega
  have hNU : w.heap.size < U.heap.size := block_lt kI
  obtain ⟨N, hNe⟩ : ∃ N, w.heap.size = N := ⟨_, rfl⟩
  rw [hNe] at kI hn0 hNU
  have g0' : (0 : Int) ≤ (g : Int) := by omega
  have g1 : (g : Int) < (M.gs.length : Int) := by omega
  have op18 := hfit.1
  have op0 : (0 : Int) ≤ (op : Int) := by omega
  have op1 : (op : Int) < 18 := by omega
  have wpc : IntKind.i64.wrap ((r.pc : Int) + 1) = ((r.pc + 1 : Nat) : Int) := by rw [IntKind.wrap_i64]; omega
  replace hfit := Lib.hid hfit
  replace hD := Lib.hid hD
  replace hM1 := Lib.hid hM1
  replace hmv := Lib.hid hmv
  replace kI := Lib.hid kI
  replace hr := Lib.hid hr
  replace hs1 := Lib.hid hs1
  clear h hbU hMU hx
  unfold insV at cn
  simp only at cn
  go_enter Tryd.func6, Tryd.ntmps6
  go_upto_region 3 with fail
  try rw [hU]
  clear hU
  replace hNe := Lib.hid hNe
  go_wp2_with fail
  with_reducible refine Calls.mono cs ?_
  rintro e w1 ⟨rfl, rfl⟩
  go_wp2_with fail
  with_reducible refine Calls.mono cs ?_
  rintro e w1 ⟨rfl, rfl⟩
  clear cs
  go_wp2_with fail
  with_reducible refine Calls.mono cn ?_
  rintro e w1 ⟨rfl, hb1⟩
  clear cn
  -- the instruction, put aside
  have hbA := below_alloc hb1 (.cells #[.int .i64 op, .int .i64 a, .int .i64 b, .int .i64 c] 26)
  have kA := heap_alloc_new w1 (.cells #[.int .i64 op, .int .i64 a, .int .i64 b, .int .i64 c] 26)
  obtain ⟨U1, hU1⟩ : ∃ U1, w1.alloc (.cells #[.int .i64 op, .int .i64 a, .int .i64 b, .int .i64 c] 26) = U1 := ⟨_, rfl⟩
  rw [hU1] at kA hbA
  have hT1 := Lib.hid (hT.out.more hbA)
  have kI1 := Lib.hid ((hbA.block _ (block_lt kI.out)).trans kI.out)
  have hn1 : Hid (∀ i k, i < 8 → hm p q i k → k ≠ w1.heap.size) := Lib.hid fun i k hi hk => by have := (hT.out.is.ap.low i k hi hk).2; have := hb1.size; omega
  have hN1U : w1.heap.size < U1.heap.size := block_lt kA
  have hNN1 : N < w1.heap.size := by have := hb1.size; omega
  obtain ⟨N1, hN1e⟩ : ∃ N1, w1.heap.size = N1 := ⟨_, rfl⟩
  rw [hN1e] at kA hn1 hN1U hNN1
  obtain ⟨gb, go, cap, c2, cg, hbk⟩ := hT1.out.is.find hg hr.out
  have r0 : U1.cell? ⟨q.bs.getD g 0, 0, none⟩ = some (.int .i64 r.f) := cell_of hbk rfl
  have r1 : U1.cell? ⟨q.bs.getD g 0, 1, none⟩ = some (.int .i64 r.pc) := cell_of hbk rfl
  obtain ⟨gk, hgk⟩ : ∃ k, q.bs.getD g 0 = k := ⟨_, rfl⟩
  rw [hgk] at cg r0 r1
  have i0 : U1.cell? ⟨N1, 0, none⟩ = some (.int .i64 op) := cell_of kA rfl
  replace kA := Lib.hid kA
  clear hbk hb1 hbA hT kI
  go_upto_region 9 with fail
  try rw [hU1]
  clear hU1
  replace hN1e := Lib.hid hN1e
  go_region_held3 (fun W' => W'.cell? ⟨gk, 0, none⟩ = some (.int .i64 r.f) ∧ W'.cell? ⟨gk, 1, none⟩ = some (.int .i64 r.pc) ∧ W'.cell? ⟨N1, 0, none⟩ = some (.int .i64 op)) (first | exact ⟨r0, r1, i0⟩ | go_keep) (fail)
  -- the commit, put aside
  have hbB := (below_alloc (Below.refl U1.heap.size U1) (.cells #[.int .i64 g, .int .i64 r.f, .int .i64 r.pc, .int .i64 op, .int .i64 0, .bool false] 31)).drew
  have kB : (U1.alloc (.cells #[.int .i64 g, .int .i64 r.f, .int .i64 r.pc, .int .i64 op, .int .i64 0, .bool false] 31)).drew.heap[U1.heap.size]? = some (.cells #[.int .i64 g, .int .i64 r.f, .int .i64 r.pc, .int .i64 op, .int .i64 0, .bool false] 31 (0, 0)) := heap_alloc_new U1 (.cells #[.int .i64 g, .int .i64 r.f, .int .i64 r.pc, .int .i64 op, .int .i64 0, .bool false] 31)
  obtain ⟨U2, hU2⟩ : ∃ U2, (U1.alloc (.cells #[.int .i64 g, .int .i64 r.f, .int .i64 r.pc, .int .i64 op, .int .i64 0, .bool false] 31)).drew = U2 := ⟨_, rfl⟩
  rw [hU2] at kB hbB ⊢
  clear hU2
  have hT2 := Lib.hid (hT1.out.more hbB)
  have kI2 := Lib.hid ((hbB.block _ (block_lt kI1.out)).trans kI1.out)
  have kA2 := Lib.hid ((hbB.block _ (block_lt kA.out)).trans kA.out)
  have hn2 : Hid (∀ i k, i < 8 → hm p q i k → k ≠ U1.heap.size) := Lib.hid fun i k hi hk => by have := (hT1.out.is.ap.low i k hi hk).2; omega
  have hN2U : U1.heap.size < U2.heap.size := block_lt kB
  obtain ⟨N2, hN2e⟩ : ∃ N2, U1.heap.size = N2 := ⟨_, rfl⟩
  rw [hN2e] at kB hn2 hN2U hN1U ⊢
  replace kB := Lib.hid kB
  replace hN2e := Lib.hid hN2e
  have c3 : U2.cell? ⟨p, 3, none⟩ = some (.pointer (some ⟨q.ps, 0, none⟩)) := cell_of hT2.out.is.p0 rfl
  have cm := m_mov hT2.out.is hgs 2 (by rw [hs1.out]; rfl)
  clear c2 cg r0 r1 i0 hbB hT1 kI1 kA
  go_wp2_with fail
  with_reducible refine Calls.mono cm ?_
  rintro e w3 ⟨rfl, sv3, hT3⟩
  obtain ⟨n30, k30⟩ := hT3.free hn0.out (by have := kI2.out; exact block_lt this)
  obtain ⟨n31, k31⟩ := hT3.free hn1.out (by have := kA2.out; exact block_lt this)
  obtain ⟨n32, k32⟩ := hT3.free hn2.out hN2U
  have hT4 := Lib.hid (hT2.out.trans hT3)
  obtain ⟨gb, go, cap, c2, cg, hbk⟩ := hT3.is.find hg hr.out
  have r1 : w3.cell? ⟨gk, 1, none⟩ = some (.int .i64 r.pc) := by rw [← hgk]; exact cell_of hbk rfl
  obtain ⟨s0, s1, hT5⟩ := hT3.is.storeR hg hr.out (j := 1) (y := .int .i64 ((r.pc + 1 : Nat) : Int)) (r' := { r with pc := r.pc + 1 }) rfl rfl
  rw [show ((r.pc + 1 : Nat) : Int) = (r.pc : Int) + 1 by omega] at hT5
  have hbs : ({ q with sv := sv3 } : Pl).bs.getD g 0 = gk := hgk
  rw [hbs] at s0 s1 hT5
  have hne : ∀ X, (∀ i k, i < 8 → hm p { q with sv := sv3 } i k → k ≠ X) → X ≠ gk := fun X hX e => hX 4 gk (by omega) (hbs ▸ hT3.is.gat hg) e.symm
  obtain ⟨W4, hW4⟩ : ∃ W, w3.setCell ⟨gk, 1, none⟩ (.int .i64 ((r.pc : Int) + 1)) = W := ⟨_, rfl⟩
  have k40 : W4.heap[N]? = some (.cells #[.int .i64 0, .int .i64 0, .int .i64 0, .int .i64 0, .int .i64 0, .bool false] 31 (0, 0)) := by rw [← hW4]; exact (Below.heap_setCell _ _ _ _ (hne N n30)).trans (k30.trans kI2.out)
  have k41 : W4.heap[N1]? = some (.cells #[.int .i64 op, .int .i64 a, .int .i64 b, .int .i64 c] 26 (0, 0)) := by rw [← hW4]; exact (Below.heap_setCell _ _ _ _ (hne N1 n31)).trans (k31.trans kA2.out)
  have k42 : W4.heap[N2]? = some (.cells #[.int .i64 g, .int .i64 r.f, .int .i64 r.pc, .int .i64 op, .int .i64 0, .bool false] 31 (0, 0)) := by rw [← hW4]; exact (Below.heap_setCell _ _ _ _ (hne N2 n32)).trans (k32.trans kB.out)
  have hT6 : Hid (Tn B w fs p q W4 { q with sv := sv3 } M1) := Lib.hid (by rw [hM1.out, ← hW4]; exact hT4.out.trans hT5.out)
  replace n30 := Lib.hid n30
  replace n32 := Lib.hid n32
  clear cm hT3 hT5 hT4 hT2 k30 k31 k32 n31 kI2 kA2 kB hn0 hn1 hn2 hbk c2 cg c3 hne hgk hbs
  go_upto_region 12 with fail
  try rw [hW4]
  clear hW4 s0 s1 r1
  obtain ⟨db, edv, hdb⟩ := hT6.out.is.p7.does
  have c1 : W4.cell? ⟨p, 1, none⟩ = some (.slice (some ⟨db, 0, none⟩) 18 18) := by rw [← edv]; exact cell_of hT6.out.is.p0 rfl
  have cd : W4.cell? ⟨db, op, none⟩ = some (.func (.func (opF.getD op 0)) #[.pointer (some ⟨p, 0, none⟩)] #[]) := cell_of hdb (do_at p op18)
  have hcf := op_cf (op := op) op18
  obtain ⟨F, hFe⟩ : ∃ F, opF.getD op 0 = F := ⟨_, rfl⟩
  have i0 := cell_of k41 (j := 0) rfl
  have i1 := cell_of k41 (j := 1) rfl
  have i2 := cell_of k41 (j := 2) rfl
  have i3 := cell_of k41 (j := 3) rfl
  have kk : ∀ V, Below W4.heap.size W4 V → Calls Tryd.prog F #[.pointer (some ⟨p, 0, none⟩), .int .i64 g, .agg #[.int .i64 op, .int .i64 a, .int .i64 b, .int .i64 c]] V (fun e w' => e = .returned (.agg #[.int .i64 v, .int .i64 ts, .bool ft]) ∧ ∃ q', Tn B V fs p { q with sv := sv3 } w' q' M2) := fun V hV => by
    have := op_any (hT6.out.is.below hV) hF1 hfit.out
    rw [hD.out, hFe] at this
    exact this
  rw [hFe] at cd hcf
  clear hFe hdb edv
  have bO := below_alloc (Below.refl W4.heap.size W4) (.cells #[.int .i64 0, .int .i64 0, .bool false] 59)
  have kO := heap_alloc_new W4 (.cells #[.int .i64 0, .int .i64 0, .bool false] 59)
  have cbA := Lib.hid (kk W4.drew (Below.refl _ _).drew)
  have cbB := Lib.hid (kk (W4.alloc (.cells #[.int .i64 0, .int .i64 0, .bool false] 59)).drew bO.drew)
  have hpl : p < W4.heap.size := block_lt hT6.out.is.p0
  have hdl : db < W4.heap.size := World.block_lt_of_cell? _ _ cd
  have hN1l : N1 < W4.heap.size := block_lt k41
  have hN0l : N < W4.heap.size := block_lt k40
  have hN2l : N2 < W4.heap.size := block_lt k42
  have hnO : Hid (∀ i k, i < 8 → hm p { q with sv := sv3 } i k → k ≠ W4.heap.size) := Lib.hid fun i k hi hk => by have := (hT6.out.is.ap.low i k hi hk).2; omega
  have hOl : W4.heap.size < (W4.alloc (.cells #[.int .i64 0, .int .i64 0, .bool false] 59)).drew.heap.size := block_lt kO
  replace kO : Hid ((W4.alloc (.cells #[.int .i64 0, .int .i64 0, .bool false] 59)).drew.heap[W4.heap.size]? = some (.cells #[.int .i64 0, .int .i64 0, .bool false] 59 (0, 0))) := Lib.hid kO
  replace k40 := Lib.hid k40
  replace k42 := Lib.hid k42
  replace bO := Lib.hid bO
  clear kk k41
  go_cut [10] from 62 to 72 (fun u10 wx => ∃ N3 q5, u10 = .pointer (some ⟨N3, 0, none⟩) ∧ Hid (Dn B w fs p q wx q5 M2 N N2 N3 #[.int .i64 g, .int .i64 r.f, .int .i64 r.pc, .int .i64 op, .int .i64 0, .bool false] v ts ft))
  case first =>
    go_region_law (first | (refine step_bound rfl (.tmp 69) (.tmp 70) (.tmp 71) rfl F (.pointer (some ⟨p, 0, none⟩)) (.int .i64 g) (.agg #[.int .i64 op, .int .i64 a, .int .i64 b, .int .i64 c]) ?_ ?_ ?_ ?_ cbA.out ?_; rfl; rfl; rfl; exact hcf _ _ _ _; rintro e w5 ⟨rfl, q5, hT7⟩; refine ⟨_, rfl, ?_⟩) | (refine step_bound rfl (.tmp 69) (.tmp 70) (.tmp 71) rfl F (.pointer (some ⟨p, 0, none⟩)) (.int .i64 g) (.agg #[.int .i64 op, .int .i64 a, .int .i64 b, .int .i64 c]) ?_ ?_ ?_ ?_ cbB.out ?_; rfl; rfl; rfl; exact hcf _ _ _ _; rintro e w5 ⟨rfl, q5, hT7⟩; have kx := (hT7.free hnO.out hOl).2.trans kO.out; have b0 := cell_of kx (j := 0) rfl; have b1 := cell_of kx (j := 1) rfl; have b2 := cell_of kx (j := 2) rfl; have f0 := frozen_of_row _ _ 0 _ _ kx; have f1 := frozen_of_row _ _ 1 _ _ kx; have f2 := frozen_of_row _ _ 2 _ _ kx; refine ⟨_, rfl, ?_⟩))
    all_goals
      go_wp2_with fail
      go_meet
      first
        | exact ⟨_, _, rfl, Lib.hid (dn_a hT6.out hT7 n30.out n32.out k40.out k42.out)⟩
        | exact ⟨_, _, rfl, Lib.hid (dn_b hT6.out hT7 n30.out n32.out k40.out k42.out)⟩
  case rest =>
    obtain ⟨N3, q5, rfl, hDn⟩ := hcut
    clear cbA cbB c1 cd hcf i0 i1 i2 i3 hpl hdl hN1l hN0l hN2l hnO hOl kO bO k40 k42 n30 n32 hT6
    have k3 := hDn.out.k3
    have o1 := cell_of k3 (j := 1) rfl
    have c3 : wc.cell? ⟨p, 3, none⟩ = some (.pointer (some ⟨q5.ps, 0, none⟩)) := cell_of hDn.out.t.is.p0 rfl
    clear k3
    have hDd := Lib.hid (show Dn B w fs p q wc.drew q5 M2 N N2 N3 #[.int .i64 g, .int .i64 r.f, .int .i64 r.pc, .int .i64 op, .int .i64 0, .bool false] v ts ft from ⟨hDn.out.t.more (Below.refl _ _).drew, hDn.out.k0, hDn.out.k2, hDn.out.k3, hDn.out.n0, hDn.out.n2, hDn.out.n3⟩)
    clear hDn
    go_upto_region 13 with fail
    go_still_tail 7, (by kernel_rfl)
    change wpList _ _ _ _ _ wc.drew
    obtain ⟨W6, hW6⟩ : ∃ W, wc.drew = W := ⟨_, rfl⟩
    rw [hW6] at hDd ⊢
    clear hW6 c3 o1
    have cm := m_mov hDd.out.t.is hg2 ts hmv.out
    have hNe2 : N ≠ N2 := by omega
    have hNl : w.heap.size ≤ N2 := by have := hNe.out; omega
    go_wp2_with fail
    with_reducible refine Calls.mono cm ?_
    rintro e w7 ⟨rfl, sv7, hT8⟩
    obtain ⟨n0, k0⟩ := hT8.free hDd.out.n0 (block_lt hDd.out.k0)
    obtain ⟨n2, k2⟩ := hT8.free hDd.out.n2 (block_lt hDd.out.k2)
    obtain ⟨n3, k3⟩ := hT8.free hDd.out.n3 (block_lt hDd.out.k3)
    have k0 := k0.trans hDd.out.k0
    have k2 := k2.trans hDd.out.k2
    have k3 := k3.trans hDd.out.k3
    have hC := Lib.hid (cn_a (v := v) (ft := ft) (hDd.out.t.trans hT8) n0 n2 hNe2 hNl k0 k2)
    have o0 := cell_of k3 (j := 0) rfl
    have o2 := cell_of k3 (j := 2) rfl
    have d4 := cell_of k2 (j := 4) rfl
    have d5 := cell_of k2 (j := 5) rfl
    have f4 := frozen_of_row _ _ 4 _ _ k2
    have f5 := frozen_of_row _ _ 5 _ _ k2
    have hN23 : N2 ≠ N3 := fun e => by rw [e, k3] at k2; cases k2
    clear cm hT8 hDd n0 n2 n3 k0 k2 k3
    go_upto_region 14 with fail
    go_cut [] from 81 to 86 (fun wx => Hid (∃ q7, Cn B w fs p q wx q7 { M2 with st := M2.st.set g ts } N N2 #[.int .i64 g, .int .i64 r.f, .int .i64 r.pc, .int .i64 op, .int .i64 v, .bool ft]))
    case first =>
      go_region
      all_goals
        go_wp2_with fail
        go_meet
        first
          | exact Lib.hid ⟨_, hC.out.1⟩
          | exact Lib.hid ⟨_, hC.out.2⟩
    case rest =>
      obtain ⟨q7, hCn⟩ := hcut.out
      have k0 := hCn.k0
      have k2 := hCn.k2
      have hsix := Lib.hid (six (x0 := g) (x1 := r.f) (x2 := r.pc) (x3 := op) (x4 := v) (x5 := ft) k0)
      have hlast := Lib.hid hCn
      have h0 := cell_of k0 (j := 0) rfl
      have h1 := cell_of k0 (j := 1) rfl
      have h2 := cell_of k0 (j := 2) rfl
      have h3 := cell_of k0 (j := 3) rfl
      have h4 := cell_of k0 (j := 4) rfl
      have h5 := cell_of k0 (j := 5) rfl
      have z0 := frozen_of_row _ _ 0 _ _ k0
      have z1 := frozen_of_row _ _ 1 _ _ k0
      have z2 := frozen_of_row _ _ 2 _ _ k0
      have z3 := frozen_of_row _ _ 3 _ _ k0
      have z4 := frozen_of_row _ _ 4 _ _ k0
      have z5 := frozen_of_row _ _ 5 _ _ k0
      have y0 := cell_of k2 (j := 0) rfl
      have y1 := cell_of k2 (j := 1) rfl
      have y2 := cell_of k2 (j := 2) rfl
      have y3 := cell_of k2 (j := 3) rfl
      have y4 := cell_of k2 (j := 4) rfl
      have y5 := cell_of k2 (j := 5) rfl
      clear hCn k0 k2 hcut hC o0 o2 d4 d5 f4 f5
      go_wp2_with fail
      obtain ⟨WF, hWF, ⟨kk0, kk1, kk2, kk3, kk4, kk5⟩, hbf, hwf⟩ := hsix.out
      rw [hWF]
      refine bodyPost_ret (v := .tuple #[.agg #[.int .i64 g, .int .i64 r.f, .int .i64 r.pc, .int .i64 op, .int .i64 v, .bool ft], .int .i64 0]) (by simp [results, Tryd.results6, go_sem, kk0, kk1, kk2, kk3, kk4, kk5]) rfl ?_
      exact ⟨rfl, q7, hlast.out.t.bes hwf (by rw [hNe.out]; exact Nat.le_refl _) hlast.out.n0⟩
end Md
end Go.Proofs.YtdhkakjiahkjnaaDoor
