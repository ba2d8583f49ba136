import Derived.Test.YtdhkakjiahkjnaaDoorMA5
import Derived.Test.YtdhkakjiahkjnaaDoorMB1
import Derived.Test.YtdhkakjiahkjnaaDoorMA1
import Derived.Test.YtdhkakjiahkjnaaDoorMA4
/- The model: State, Next. -/
namespace Go.Proofs.YtdhkakjiahkjnaaDoor
open Go.RowKit Go.Lib Fx Ho Gr
set_option linter.unusedVariables false
namespace Md
open Cd (Ins zi ca c4 IRow irow_grow)
variable {B w w' : World} {fs : List (List Ins)} {p : Nat} {q q' : Pl} {M M' : Mo} {H H' : Home} {g a b c n i : Nat} {r : Gor}
set_option maxRecDepth 100000 in
theorem state_yes (h : IsM B w fs p q M) (hg : g < M.st.length) : Calls Tryd.prog 7 #[.pointer (some ⟨p, 0, none⟩), .int .i64 g] w (Still (.int .i64 (M.st.getD g 0)) w) := by
  have c3 : w.cell? ⟨p, 3, none⟩ = some (.pointer (some ⟨q.ps, 0, none⟩)) := cell_of h.p0 rfl
  have cs := St.of_yes g hg w h.p1
  obtain ⟨s, hs⟩ : ∃ s, M.st.getD g 0 = s := ⟨_, rfl⟩
  rw [hs] at cs ⊢
  clear h hs
  go_enter Tryd.func7, Tryd.ntmps7
  go_wp2_with fail
  with_reducible refine Calls.mono cs ?_
  rintro e w1 ⟨rfl, rfl⟩
  go_wp2_with fail
  go_ret
  exact ⟨rfl, rfl⟩
set_option maxRecDepth 100000 in
theorem state_no (h : IsM B w fs p q M) (x : Int) (hx : ¬ (0 ≤ x ∧ x < M.st.length)) : Calls Tryd.prog 7 #[.pointer (some ⟨p, 0, none⟩), .int .i64 x] w (Still (.int .i64 0) w) := by
  have c3 : w.cell? ⟨p, 3, none⟩ = some (.pointer (some ⟨q.ps, 0, none⟩)) := cell_of h.p0 rfl
  have cs := St.of_no x hx w h.p1
  clear h hx
  go_enter Tryd.func7, Tryd.ntmps7
  go_wp2_with fail
  with_reducible refine Calls.mono cs ?_
  rintro e w1 ⟨rfl, rfl⟩
  go_wp2_with fail
  go_ret
  exact ⟨rfl, rfl⟩
/-- A goroutine's next instruction. -/
def nextI (fs : List (List Ins)) (r : Gor) : Ins := if r.pc < (fs.getD r.f []).length then (fs.getD r.f []).getD r.pc zi else zi
def insV (x : Ins) : Value := .agg #[.int .i64 x.1, .int .i64 x.2.1, .int .i64 x.2.2.1, .int .i64 x.2.2.2]
/-- A cell of an instruction is laid down: what is told. -/
theorem four {N : Nat} {y0 y1 y2 y3 : Value} {x0 x1 x2 x3 : Int} (hk : w.heap[N]? = some (.cells #[y0, y1, y2, y3] 26 (0, 0))) : ∃ W, (((w.setCell ⟨N, 0, none⟩ (.int .i64 x0)).setCell ⟨N, 1, none⟩ (.int .i64 x1)).setCell ⟨N, 2, none⟩ (.int .i64 x2)).setCell ⟨N, 3, none⟩ (.int .i64 x3) = W ∧ W.cell? ⟨N, 0, none⟩ = some (.int .i64 x0) ∧ W.cell? ⟨N, 1, none⟩ = some (.int .i64 x1) ∧ W.cell? ⟨N, 2, none⟩ = some (.int .i64 x2) ∧ W.cell? ⟨N, 3, none⟩ = some (.int .i64 x3) ∧ Below N w W := by
  have g0 := heap_setCell_same w N 0 _ _ (.int .i64 x0) hk
  have g1 := heap_setCell_same _ N 1 _ _ (.int .i64 x1) g0
  have g2 := heap_setCell_same _ N 2 _ _ (.int .i64 x2) g1
  have g3 := heap_setCell_same _ N 3 _ _ (.int .i64 x3) g2
  have hsz := block_lt hk
  have w0 : ∀ (V : World) (j : Nat) (z : Value), Wrote (fun k => k = N) V (fun k => k = N) (V.setCell ⟨N, j, none⟩ z) := fun V j z => wrote_setCell (a := ⟨N, j, none⟩) rfl rfl rfl rfl rfl
  have hw := (((w0 w 0 (.int .i64 x0)).trans (w0 _ 1 (.int .i64 x1))).trans (w0 _ 2 (.int .i64 x2))).trans (w0 _ 3 (.int .i64 x3))
  exact ⟨_, rfl, cell_of g3 rfl, cell_of g3 rfl, cell_of g3 rfl, cell_of g3 rfl, ⟨hw.os, hw.tape, hw.output, hw.size, fun k hk => hw.block k (by omega) (fun e => by have e : k = N := e; omega)⟩⟩
/-- Where the program's functions are found. -/
theorem IsM.findF (h : IsM B w fs p q M) {f : Nat} (hf : f < fs.length) : ∃ fb fo cap ao c2, w.cell? ⟨p, 0, none⟩ = some (.slice (some ⟨fb, fo, none⟩) fs.length cap) ∧ w.cell? ⟨fb, fo + f, none⟩ = some (.slice ao (fs.getD f []).length c2) ∧ IRow w (.slice ao (fs.getD f []).length c2) (fs.getD f []) := by
  obtain ⟨ao, fb, fo, cap, e, hle, hm, hc, hcell⟩ := h.p7.row.cell
  obtain ⟨rfl, _, _⟩ := hc (by omega)
  have hl := h.p7.len
  have hi := irow_grow (h.p7.ins f hf)
  obtain ⟨ax, cx, ex, _⟩ := id hi
  refine ⟨fb, fo, cap, ax, cx, by rw [← e]; exact cell_of h.p0 rfl, ?_, by rw [← ex]; exact hi⟩
  rw [← ex]
  exact (hcell f _ (by rw [List.getElem?_eq_getElem (by omega), List.getD_eq_getElem?_getD, List.getElem?_eq_getElem (by omega)]; rfl)).1
set_option maxRecDepth 100000 in
set_option maxHeartbeats 2000000 in
theorem next_any (h : IsM B w fs p q M) (hg : g < M.gs.length) (hr : M.gs.getD g g0 = r) (hgs : g < M.st.length) {s : Int} (hs : M.st.getD g 0 = s) (s0 : s ≠ 0) (s5 : s ≠ 5) (hf : r.f < fs.length) {x : Ins} (hx : nextI fs r = x) : Calls Tryd.prog 12 #[.pointer (some ⟨p, 0, none⟩), .int .i64 g] w (AnsB (.tuple #[insV x, .bool true]) w) := by
  have hbU := below_alloc (Below.refl w.heap.size w) (.cells #[.int .i64 0, .int .i64 0, .int .i64 0, .int .i64 0] 26)
  have kI := heap_alloc_new w (.cells #[.int .i64 0, .int .i64 0, .int .i64 0, .int .i64 0] 26)
  obtain ⟨U, hU⟩ : ∃ U, w.alloc (.cells #[.int .i64 0, .int .i64 0, .int .i64 0, .int .i64 0] 26) = U := ⟨_, rfl⟩
  rw [hU] at kI hbU
  have hM := h.below hbU
  have cs := state_yes hM hgs
  rw [hs] at cs
  obtain ⟨gb, go, cap, c2, cg, hbk⟩ := hM.find hg hr
  obtain ⟨fb, fo, fc, ao, c2', c0, cf, hir⟩ := hM.findF hf
  have r0 : U.cell? ⟨q.bs.getD g 0, 0, none⟩ = some (.int .i64 r.f) := cell_of hbk rfl
  have r1 : U.cell? ⟨q.bs.getD g 0, 1, none⟩ = some (.int .i64 r.pc) := cell_of hbk rfl
  obtain ⟨gk, hgk⟩ : ∃ k, q.bs.getD g 0 = k := ⟨_, rfl⟩
  rw [hgk] at cg r0 r1
  have e0 : (s == 0) = false := beq_eq_false_iff_ne.2 s0
  have e0' : decide (s = 0) = false := decide_eq_false s0
  have e5 : (s == 5) = false := beq_eq_false_iff_ne.2 s5
  have e5' : decide (s = 5) = false := decide_eq_false s5
  have g0' : (0 : Int) ≤ (g : Int) := by omega
  have g1 : (g : Int) < (M.gs.length : Int) := by omega
  have f0 : (0 : Int) ≤ (r.f : Int) := by omega
  have f1 : (r.f : Int) < (fs.length : Int) := by omega
  have p0 : (0 : Int) ≤ (r.pc : Int) := by omega
  obtain ⟨l, hl⟩ : ∃ l, (fs.getD r.f []).length = l := ⟨_, rfl⟩
  rw [hl] at cf
  have kI := Lib.hid kI
  have hbU := Lib.hid hbU
  obtain ⟨N, hNe⟩ : ∃ N, w.heap.size = N := ⟨_, rfl⟩
  rw [hNe] at kI hbU
  clear h hM hbk hgk
  go_enter Tryd.func12, Tryd.ntmps12
  go_upto_region 1 with fail
  try rw [hU]
  clear hU
  replace hNe := Lib.hid hNe
  go_wp2_with fail
  with_reducible refine Calls.mono cs ?_
  rintro e w1 ⟨rfl, rfl⟩
  clear cs
  by_cases hpc : r.pc < l
  · have q1 : (r.pc : Int) < (l : Int) := by omega
    have q2 : decide ((r.pc : Int) < (l : Int)) = true := decide_eq_true q1
    obtain ⟨sp, cp, es, _, hat⟩ := hir
    obtain ⟨ib, io, e2, k0, k1, k2, k3⟩ := hat r.pc (by omega)
    cases es
    subst e2
    have hxx : (fs.getD r.f []).getD r.pc zi = x := by rw [← hx]; unfold nextI; rw [if_pos (by omega)]
    rw [hxx] at k0 k1 k2 k3
    obtain ⟨x0, x1, x2, x3⟩ := x
    simp only at k0 k1 k2 k3
    clear hat hxx hx hl
    unfold insV
    simp only
    go_wp2_with fail
    go_quiet (fail)
    rename_i nq
    have hbq := below_drewN (Below.refl U.heap.size U) nq
    have r1' := cell_then hbq r1
    have k0' := cell_then hbq k0
    have k1' := cell_then hbq k1
    have k2' := cell_then hbq k2
    have k3' := cell_then hbq k3
    have kI2 := (hbq.block _ (block_lt kI.out)).trans kI.out
    have hbw := Lib.hid (hbU.out.trans (hbq.mono (by have := hbU.out.size; have := hNe.out; omega)))
    generalize U.drewN nq = wq at *
    clear r0 r1 k0 k1 k2 k3 c0 c2 cg cf kI hbU hbq
    have h0 := cell_of kI2 (j := 0) rfl
    have h1 := cell_of kI2 (j := 1) rfl
    have h2 := cell_of kI2 (j := 2) rfl
    have h3 := cell_of kI2 (j := 3) rfl
    have z0 := frozen_of_row _ _ 0 _ _ kI2
    have z1 := frozen_of_row _ _ 1 _ _ kI2
    have z2 := frozen_of_row _ _ 2 _ _ kI2
    have z3 := frozen_of_row _ _ 3 _ _ kI2
    have hfour := Lib.hid (four (x0 := x0) (x1 := x1) (x2 := x2) (x3 := x3) kI2)
    clear kI2
    go_wp2_with fail
    obtain ⟨WF, hWF, kk0, kk1, kk2, kk3, hbf⟩ := hfour.out
    rw [hWF]
    refine bodyPost_ret (v := .tuple #[.agg #[.int .i64 x0, .int .i64 x1, .int .i64 x2, .int .i64 x3], .bool true]) (by simp [results, Tryd.results12, go_sem, kk0, kk1, kk2, kk3]) rfl ?_
    exact ⟨rfl, by rw [hNe.out]; exact hbw.out.trans hbf⟩
  · have q1 : ¬ (r.pc : Int) < (l : Int) := by omega
    have q2 : decide ((r.pc : Int) < (l : Int)) = false := decide_eq_false q1
    obtain rfl : zi = x := by rw [← hx]; unfold nextI; rw [if_neg (by omega)]
    clear hx hl hir
    unfold insV zi
    simp only
    go_wp2_with fail
    go_quiet (fail)
    rename_i nq
    have hbq := below_drewN (Below.refl U.heap.size U) nq
    have r1' := cell_then hbq r1
    have kI2 := (hbq.block _ (block_lt kI.out)).trans kI.out
    have hbw := Lib.hid (hbU.out.trans (hbq.mono (by have := hbU.out.size; have := hNe.out; omega)))
    generalize U.drewN nq = wq at *
    clear r0 r1 c0 c2 cg cf kI hbU hbq
    have h0 := cell_of kI2 (j := 0) rfl
    have h1 := cell_of kI2 (j := 1) rfl
    have h2 := cell_of kI2 (j := 2) rfl
    have h3 := cell_of kI2 (j := 3) rfl
    have z0 := frozen_of_row _ _ 0 _ _ kI2
    have z1 := frozen_of_row _ _ 1 _ _ kI2
    have z2 := frozen_of_row _ _ 2 _ _ kI2
    have z3 := frozen_of_row _ _ 3 _ _ kI2
    have hfour := Lib.hid (four (x0 := 0) (x1 := 0) (x2 := 0) (x3 := 0) kI2)
    clear kI2
    go_wp2_with fail
    obtain ⟨WF, hWF, kk0, kk1, kk2, kk3, hbf⟩ := hfour.out
    rw [hWF]
    refine bodyPost_ret (v := .tuple #[.agg #[.int .i64 0, .int .i64 0, .int .i64 0, .int .i64 0], .bool true]) (by simp [results, Tryd.results12, go_sem, kk0, kk1, kk2, kk3]) rfl ?_
    exact ⟨rfl, by rw [hNe.out]; exact hbw.out.trans hbf⟩
end Md
end Go.Proofs.YtdhkakjiahkjnaaDoor
/- The model: any instruction. -/
namespace Go.Proofs.YtdhkakjiahkjnaaDoor
open Go.RowKit Go.Lib Fx Ho Gr
set_option linter.unusedVariables false
namespace Md
open Cd (Ins zi ca c4 okI hasB bnd kd)
variable {B w w' : World} {fs : List (List Ins)} {p : Nat} {q q' : Pl} {M M' : Mo} {H H' : Home} {g a b c n i : Nat} {r : Gor}
/-- What an instruction comes to: the model, what is told, the goroutine's state, is it a fault. -/
def doI (M : Mo) (g : Nat) (op a b c : Nat) : Mo × Int × Int × Bool :=
  let r := M.gs.getD g g0
  let s := fun k => r.sk.getD k 0
  match op with
  | 0 => (M, 0, 5, false)
  | 1 => ({ M with ob := M.ob ++ [List.replicate (b + 1) 0], gs := M.gs.set g { r with sk := r.sk.set a (M.ob.length + 1) } }, M.ob.length + 1, 1, false)
  | 2 => match slotOf M (s b) c with | none => (M, 0, 5, true) | some z => ({ M with gs := M.gs.set g { r with sk := r.sk.set a z } }, z, 1, false)
  | 3 => match slotOf M (s a) b with | none => (M, 0, 5, true) | some _ => ({ M with ob := M.ob.set ((s a).toNat - 1) ((M.ob.getD ((s a).toNat - 1) []).set b (s c)) }, 0, 1, false)
  | 4 => ({ M with gs := M.gs.set g { r with sk := r.sk.set a (s b) } }, 0, 1, false)
  | 5 => ({ M with gs := M.gs.set g { r with sk := r.sk.set a 0 } }, 0, 1, false)
  | 6 => ({ M with gs := M.gs.set g { r with sk := r.sk.set a (M.gl.getD b 0) } }, 0, 1, false)
  | 7 => ({ M with gl := M.gl.set a (s b) }, 0, 1, false)
  | 8 => if M.st.length < 1024 then ({ M with st := M.st ++ [1], gs := M.gs ++ [fresh a (s b)] }, M.st.length, 1, false) else (M, 0, 5, true)
  | 9 => (M, 0, 1, false)
  | 10 => ({ M with tm := M.tm ++ [(M.ck + ((256 * b + c + 1 : Nat) : Int), (g : Int), (M.tn : Int))], tn := M.tn + 1 }, 0, 3, false)
  | 11 => ({ M with wz := Wt.upd M.wz a (M.wz a ++ [(g : Int)]) }, 0, 3, false)
  | 12 => match M.wz a with | [] => (M, -1, 1, false) | h :: T => ({ M with wz := Wt.upd M.wz a T, st := M.st.set h.toNat 1 }, h, 1, false)
  | 13 => (M, if s a == s b then 1 else 0, 1, false)
  | 14 => ({ M with gs := M.gs.set g { r with pc := a } }, 0, 1, false)
  | 15 => (if s a == s b then { M with gs := M.gs.set g { r with pc := c } } else M, 0, 1, false)
  | 16 => ({ M with gs := M.gs.set g { r with ct := 256 * a + b } }, 0, 1, false)
  | _ => (if 0 < r.ct then { M with gs := M.gs.set g { r with ct := r.ct - 1, pc := a } } else M, 0, 1, false)
/-- The methods, by Op. -/
def opF : List FuncId := [40, 41, 42, 43, 44, 45, 46, 47, 48, 49, 50, 51, 52, 53, 54, 55, 56, 57]
/-- What is wanted of a model, and of a goroutine that runs, for an instruction. -/
structure Fit (M : Mo) (g : Nat) : Prop where
  lt : g < M.gs.length
  few : M.gs.length ≤ 2000
  sk : (M.gs.getD g g0).sk.length = 16
  ct : (M.gs.getD g g0).ct ≤ 65536
  val : ∀ k, k < 16 → 0 ≤ (M.gs.getD g g0).sk.getD k 0 ∧ (M.gs.getD g g0).sk.getD k 0 ≤ M.ob.length
  ob : M.ob.length < 900000
  st : M.st.length ≤ 1024
  ck0 : 0 ≤ M.ck
  ck1 : M.ck ≤ 4611686018427387904
  tm : M.tm.length < 1000
  tn : M.tn < 1000000
  no : ∀ j, j < 32 → (g : Int) ∉ M.wz j
  wl : ∀ j, j < 32 → (M.wz j).length < 1000000
  wk : ∀ j h T, j < 32 → M.wz j = h :: T → ∃ t : Nat, h = (t : Int) ∧ t < M.st.length ∧ St.mayB (M.st.getD t 0) 1 = true
def insN (op a b c : Nat) : Value := .agg #[.int .i64 op, .int .i64 a, .int .i64 b, .int .i64 c]
/-- May the parts stand there? -/
def fitN (G nf len : Nat) (op a b c : Nat) : Prop := op < 18 ∧ (∀ (k : Int) (n : Nat), ((kd op 0 = k ∧ n = a) ∨ (kd op 1 = k ∧ n = b) ∨ (kd op 2 = k ∧ n = c)) → ((k = 0 → n < 1) ∧ (k = 1 → n < 256) ∧ (k = 2 → n < 16) ∧ (k = 3 → n < G) ∧ (k = 4 → n < nf) ∧ (k = 5 → n < len) ∧ (k = 6 → n < 32)))
theorem op_any (h : IsM B w fs p q M) (hF : Fit M g) {nf len : Nat} {op : Nat} (hx : fitN M.gl.length nf len op a b c) : Calls Tryd.prog (opF.getD op 0) #[.pointer (some ⟨p, 0, none⟩), .int .i64 g, insN op a b c] w (MR B w fs p q (doI M g op a b c).1 (doI M g op a b c).2.1 (doI M g op a b c).2.2.1 (doI M g op a b c).2.2.2) := by
  obtain ⟨h18, hk⟩ := hx
  have hA := fun k e => hk k a (.inl ⟨e, rfl⟩)
  have hB := fun k e => hk k b (.inr (.inl ⟨e, rfl⟩))
  have hC := fun k e => hk k c (.inr (.inr ⟨e, rfl⟩))
  have hlt := hF.lt
  have hsk := hF.sk
  have hval := hF.val
  have vid : ∀ k, k < 16 → (M.gs.getD g g0).sk.getD k 0 = ((((M.gs.getD g g0).sk.getD k 0).toNat : Nat) : Int) ∧ ((M.gs.getD g g0).sk.getD k 0).toNat ≤ M.ob.length := fun k hk => by have := hval k hk; omega
  have hob : M.ob.length ≤ 1000000 := by have := hF.ob; omega
  rcases (show op = 0 ∨ op = 1 ∨ op = 2 ∨ op = 3 ∨ op = 4 ∨ op = 5 ∨ op = 6 ∨ op = 7 ∨ op = 8 ∨ op = 9 ∨ op = 10 ∨ op = 11 ∨ op = 12 ∨ op = 13 ∨ op = 14 ∨ op = 15 ∨ op = 16 ∨ op = 17 by omega) with rfl | rfl | rfl | rfl | rfl | rfl | rfl | rfl | rfl | rfl | rfl | rfl | rfl | rfl | rfl | rfl | rfl | rfl
  · exact exit_any h hlt rfl hsk _
  · have ha := (hA 2 rfl).2.2.1 rfl
    have hb := (hB 1 rfl).2.1 rfl
    exact alloc_any h hlt rfl hsk _ ha (by omega) hF.ob
  · have ha := (hA 2 rfl).2.2.1 rfl
    have hb := (hB 2 rfl).2.2.1 rfl
    have hc := (hC 1 rfl).2.1 rfl
    refine load_any h hlt rfl hsk _ ha hb (by omega) rfl (vid b hb).1 (vid b hb).2 hob (Lib.hid rfl)
  · have ha := (hA 2 rfl).2.2.1 rfl
    have hb := (hB 1 rfl).2.1 rfl
    have hc := (hC 2 rfl).2.2.1 rfl
    refine store_any h hlt rfl hsk _ ha (by omega) hc rfl rfl (vid a ha).1 (vid a ha).2 hob (Lib.hid rfl)
  · exact move_any h hlt rfl hsk _ ((hA 2 rfl).2.2.1 rfl) ((hB 2 rfl).2.2.1 rfl) rfl
  · exact drop_any h hlt rfl hsk _ ((hA 2 rfl).2.2.1 rfl)
  · exact get_any h hlt rfl hsk _ ((hA 2 rfl).2.2.1 rfl) ((hB 3 rfl).2.2.2.1 rfl) rfl
  · exact put_any h hlt rfl hsk _ ((hA 3 rfl).2.2.2.1 rfl) ((hB 2 rfl).2.2.1 rfl) rfl
  · have hb := (hB 2 rfl).2.2.1 rfl
    have hst := hF.st
    by_cases hs : M.st.length < 1024
    · have e : doI M g 8 a b c = ({ M with st := M.st ++ [1], gs := M.gs ++ [fresh a ((M.gs.getD g g0).sk.getD b 0)] }, (M.st.length : Int), (1 : Int), false) := by unfold doI; simp only [if_pos hs]
      rw [e]
      exact spawn_yes h hlt rfl hsk _ hb hs hF.few rfl
    · have e : doI M g 8 a b c = (M, 0, 5, true) := by unfold doI; simp only [if_neg hs]
      rw [e]
      exact spawn_full h hlt rfl hsk _ hb (by omega) rfl
  · exact yield_any h hlt rfl hsk _
  · exact sleep_any h hlt rfl hsk _ ((hB 1 rfl).2.1 rfl) ((hC 1 rfl).2.1 rfl) hF.ck0 hF.ck1 hF.tm hF.tn rfl
  · have ha := (hA 6 rfl).2.2.2.2.2.2 rfl
    exact block_any h hlt rfl hsk _ ha hF.no (hF.wl a ha)
  · have ha := (hA 6 rfl).2.2.2.2.2.2 rfl
    cases hz : M.wz a with
    | nil =>
      have e : doI M g 12 a b c = (M, -1, 1, false) := by unfold doI; simp only [hz]
      rw [e]
      exact wake_no h hlt rfl hsk _ ha hz
    | cons x T =>
      obtain ⟨t, rfl, ht, hm⟩ := hF.wk a x T ha hz
      have e : doI M g 12 a b c = ({ M with wz := Wt.upd M.wz a T, st := M.st.set t 1 }, (t : Int), 1, false) := by unfold doI; simp only [hz, Int.toNat_natCast]
      rw [e]
      exact wake_yes h hlt rfl hsk _ ha hz ht hm
  · exact eq_any h hlt rfl hsk _ ((hA 2 rfl).2.2.1 rfl) ((hB 2 rfl).2.2.1 rfl) rfl rfl (Lib.hid rfl)
  · exact jump_any h hlt rfl hsk _
  · exact jeq_any h hlt rfl hsk _ ((hA 2 rfl).2.2.1 rfl) ((hB 2 rfl).2.2.1 rfl) rfl rfl (Lib.hid rfl)
  · exact set_any h hlt rfl hsk _ ((hA 1 rfl).2.1 rfl) ((hB 1 rfl).2.1 rfl)
  · exact dec_any h hlt rfl hF.ct _ (Lib.hid rfl)
end Md
end Go.Proofs.YtdhkakjiahkjnaaDoor
/- The model: Do of what can't be done. -/
namespace Go.Proofs.YtdhkakjiahkjnaaDoor
open Go.RowKit Go.Lib Fx Ho Gr
set_option linter.unusedVariables false
namespace Md
open Cd (Ins zi ca c4)
variable {B w w' : World} {fs : List (List Ins)} {p : Nat} {q q' : Pl} {M M' : Mo} {H H' : Home} {g a b c n i : Nat} {r : Gor}
/-- A commit. -/
def comV (g f pc op v : Int) (ft : Bool) : Value := .agg #[.int .i64 g, .int .i64 f, .int .i64 pc, .int .i64 op, .int .i64 v, .bool ft]
set_option maxRecDepth 100000 in
set_option maxHeartbeats 2000000 in
theorem six {N : Nat} {y0 y1 y2 y3 y4 y5 : Value} {x0 x1 x2 x3 x4 : Int} {x5 : Bool} (hk : w.heap[N]? = some (.cells #[y0, y1, y2, y3, y4, y5] 31 (0, 0))) : ∃ W, (((((w.setCell ⟨N, 0, none⟩ (.int .i64 x0)).setCell ⟨N, 1, none⟩ (.int .i64 x1)).setCell ⟨N, 2, none⟩ (.int .i64 x2)).setCell ⟨N, 3, none⟩ (.int .i64 x3)).setCell ⟨N, 4, none⟩ (.int .i64 x4)).setCell ⟨N, 5, none⟩ (.bool x5) = W ∧ (W.cell? ⟨N, 0, none⟩ = some (.int .i64 x0) ∧ W.cell? ⟨N, 1, none⟩ = some (.int .i64 x1) ∧ W.cell? ⟨N, 2, none⟩ = some (.int .i64 x2) ∧ W.cell? ⟨N, 3, none⟩ = some (.int .i64 x3) ∧ W.cell? ⟨N, 4, none⟩ = some (.int .i64 x4) ∧ W.cell? ⟨N, 5, none⟩ = some (.bool x5)) ∧ Below N w W ∧ Wrote (fun k => k = N) w (fun k => k = N) W := by
  have g0 := heap_setCell_same w N 0 _ _ (.int .i64 x0) hk
  have g1 := heap_setCell_same _ N 1 _ _ (.int .i64 x1) g0
  have g2 := heap_setCell_same _ N 2 _ _ (.int .i64 x2) g1
  have g3 := heap_setCell_same _ N 3 _ _ (.int .i64 x3) g2
  have g4 := heap_setCell_same _ N 4 _ _ (.int .i64 x4) g3
  have g5 : (((((w.setCell ⟨N, 0, none⟩ (.int .i64 x0)).setCell ⟨N, 1, none⟩ (.int .i64 x1)).setCell ⟨N, 2, none⟩ (.int .i64 x2)).setCell ⟨N, 3, none⟩ (.int .i64 x3)).setCell ⟨N, 4, none⟩ (.int .i64 x4)).setCell ⟨N, 5, none⟩ (.bool x5) |>.heap[N]? = some (.cells #[.int .i64 x0, .int .i64 x1, .int .i64 x2, .int .i64 x3, .int .i64 x4, .bool x5] 31 (0, 0)) := heap_setCell_same _ N 5 _ _ (.bool x5) g4
  clear g0 g1 g2 g3 g4
  have hsz := block_lt hk
  have w0 : ∀ (V : World) (j : Nat) (z : Value), Wrote (fun k => k = N) V (fun k => k = N) (V.setCell ⟨N, j, none⟩ z) := fun V j z => wrote_setCell (a := ⟨N, j, none⟩) rfl rfl rfl rfl rfl
  have hw := (((((w0 w 0 (.int .i64 x0)).trans (w0 _ 1 (.int .i64 x1))).trans (w0 _ 2 (.int .i64 x2))).trans (w0 _ 3 (.int .i64 x3))).trans (w0 _ 4 (.int .i64 x4))).trans (w0 _ 5 (.bool x5))
  exact ⟨_, rfl, ⟨cell_of g5 rfl, cell_of g5 rfl, cell_of g5 rfl, cell_of g5 rfl, cell_of g5 rfl, cell_of g5 rfl⟩, ⟨hw.os, hw.tape, hw.output, hw.size, fun k hk => hw.block k (by omega) (fun e => by have e : k = N := e; omega)⟩, hw⟩
set_option maxRecDepth 100000 in
theorem do_none (h : IsM B w fs p q M) (x : Int) (hx : ¬ (0 ≤ x ∧ x < M.st.length)) : Calls Tryd.prog 6 #[.pointer (some ⟨p, 0, none⟩), .int .i64 x] w (Mt (.tuple #[comV 0 0 0 0 0 false, .int .i64 4]) B w fs p q M) := by
  have hbU := below_alloc (Below.refl w.heap.size w) (.cells #[.int .i64 0, .int .i64 0, .int .i64 0, .int .i64 0, .int .i64 0, .bool false] 31)
  have kI := heap_alloc_new w (.cells #[.int .i64 0, .int .i64 0, .int .i64 0, .int .i64 0, .int .i64 0, .bool false] 31)
  obtain ⟨U, hU⟩ : ∃ U, w.alloc (.cells #[.int .i64 0, .int .i64 0, .int .i64 0, .int .i64 0, .int .i64 0, .bool false] 31) = U := ⟨_, rfl⟩
  rw [hU] at kI hbU
  have cs := state_no (h.below hbU) x hx
  have hT := Lib.hid (tn_below h hbU)
  have hn0 : Hid (∀ i k, i < 8 → hm p q i k → k ≠ w.heap.size) := Lib.hid fun i k hi hk => by have := (h.ap.low i k hi hk).2; omega
  obtain ⟨N, hNe⟩ : ∃ N, w.heap.size = N := ⟨_, rfl⟩
  rw [hNe] at kI hn0
  have hsix := Lib.hid (six (x0 := 0) (x1 := 0) (x2 := 0) (x3 := 0) (x4 := 0) (x5 := false) kI)
  have h0 := cell_of kI (j := 0) rfl
  have h1 := cell_of kI (j := 1) rfl
  have h2 := cell_of kI (j := 2) rfl
  have h3 := cell_of kI (j := 3) rfl
  have h4 := cell_of kI (j := 4) rfl
  have h5 := cell_of kI (j := 5) rfl
  have z0 := frozen_of_row _ _ 0 _ _ kI
  have z1 := frozen_of_row _ _ 1 _ _ kI
  have z2 := frozen_of_row _ _ 2 _ _ kI
  have z3 := frozen_of_row _ _ 3 _ _ kI
  have z4 := frozen_of_row _ _ 4 _ _ kI
  have z5 := frozen_of_row _ _ 5 _ _ kI
  clear h hbU kI hx
  go_enter Tryd.func6, Tryd.ntmps6
  go_upto_region 3 with fail
  try rw [hU]
  clear hU
  replace hNe := Lib.hid hNe
  go_wp2_with fail
  with_reducible refine Calls.mono cs ?_
  rintro e w1 ⟨rfl, rfl⟩
  clear cs
  go_wp2_with fail
  obtain ⟨WF, hWF, ⟨kk0, kk1, kk2, kk3, kk4, kk5⟩, hbf, hwf⟩ := hsix.out
  rw [hWF]
  refine bodyPost_ret (v := .tuple #[.agg #[.int .i64 0, .int .i64 0, .int .i64 0, .int .i64 0, .int .i64 0, .bool false], .int .i64 4]) (by simp [results, Tryd.results6, go_sem, kk0, kk1, kk2, kk3, kk4, kk5]) rfl ?_
  exact ⟨rfl, q, hT.out.bes hwf (by rw [hNe.out]; exact Nat.le_refl _) hn0.out⟩
end Md
end Go.Proofs.YtdhkakjiahkjnaaDoor
/- The model: Do of one that does not run; what is asked of it. -/
namespace Go.Proofs.YtdhkakjiahkjnaaDoor
open Go.RowKit Go.Lib Fx Ho Gr
set_option linter.unusedVariables false
namespace Md
open Cd (Ins zi ca c4)
variable {B w w' : World} {fs : List (List Ins)} {p : Nat} {q q' : Pl} {M M' : Mo} {H H' : Home} {g a b c n i : Nat} {r : Gor}
set_option maxRecDepth 100000 in
theorem ids_any (h : IsM B w fs p q M) : Calls Tryd.prog 19 #[.pointer (some ⟨p, 0, none⟩)] w (Still (.int .i64 M.ob.length) w) := by
  obtain ⟨sp, cap, e⟩ := h.p5.row.slice
  have c8 : w.cell? ⟨p, 8, none⟩ = some q.obv := cell_of h.p0 rfl
  rw [e] at c8
  clear h e
  go_enter Tryd.func19, Tryd.ntmps19
  go_wp2_with fail
  go_ret
  exact ⟨rfl, rfl⟩
set_option maxRecDepth 100000 in
theorem ids_nil (w : World) : Calls Tryd.prog 19 #[.pointer none] w (Still (.int .i64 0) w) := by
  go_enter Tryd.func19, Tryd.ntmps19
  go_wp2_with fail
  go_ret
  exact ⟨rfl, rfl⟩
set_option maxRecDepth 100000 in
theorem do_not (h : IsM B w fs p q M) (hg : g < M.st.length) {s : Int} (hs : M.st.getD g 0 = s) (s0 : s ≠ 0) (s1 : s ≠ 1) : Calls Tryd.prog 6 #[.pointer (some ⟨p, 0, none⟩), .int .i64 g] w (Mt (.tuple #[comV 0 0 0 0 0 false, .int .i64 5]) B w fs p q M) := by
  have hbU := below_alloc (Below.refl w.heap.size w) (.cells #[.int .i64 0, .int .i64 0, .int .i64 0, .int .i64 0, .int .i64 0, .bool false] 31)
  have kI := heap_alloc_new w (.cells #[.int .i64 0, .int .i64 0, .int .i64 0, .int .i64 0, .int .i64 0, .bool false] 31)
  obtain ⟨U, hU⟩ : ∃ U, w.alloc (.cells #[.int .i64 0, .int .i64 0, .int .i64 0, .int .i64 0, .int .i64 0, .bool false] 31) = U := ⟨_, rfl⟩
  rw [hU] at kI hbU
  have cs := state_yes (h.below hbU) hg
  rw [hs] at cs
  have e0 : (s == 0) = false := beq_eq_false_iff_ne.2 s0
  have e0' : decide (s = 0) = false := decide_eq_false s0
  have e1 : (s != 1) = true := by simp [s1]
  have e1' : decide (s = 1) = false := decide_eq_false s1
  have e1'' : (s == 1) = false := beq_eq_false_iff_ne.2 s1
  have hT := Lib.hid (tn_below h hbU)
  have hn0 : Hid (∀ i k, i < 8 → hm p q i k → k ≠ w.heap.size) := Lib.hid fun i k hi hk => by have := (h.ap.low i k hi hk).2; omega
  obtain ⟨N, hNe⟩ : ∃ N, w.heap.size = N := ⟨_, rfl⟩
  rw [hNe] at kI hn0
  have hsix := Lib.hid (six (x0 := 0) (x1 := 0) (x2 := 0) (x3 := 0) (x4 := 0) (x5 := false) kI)
  have h0 := cell_of kI (j := 0) rfl
  have h1 := cell_of kI (j := 1) rfl
  have h2 := cell_of kI (j := 2) rfl
  have h3 := cell_of kI (j := 3) rfl
  have h4 := cell_of kI (j := 4) rfl
  have h5 := cell_of kI (j := 5) rfl
  have z0 := frozen_of_row _ _ 0 _ _ kI
  have z1 := frozen_of_row _ _ 1 _ _ kI
  have z2 := frozen_of_row _ _ 2 _ _ kI
  have z3 := frozen_of_row _ _ 3 _ _ kI
  have z4 := frozen_of_row _ _ 4 _ _ kI
  have z5 := frozen_of_row _ _ 5 _ _ kI
  clear h hbU kI hs
  go_enter Tryd.func6, Tryd.ntmps6
  go_upto_region 3 with fail
  try rw [hU]
  clear hU
  replace hNe := Lib.hid hNe
  go_wp2_with fail
  with_reducible refine Calls.mono cs ?_
  rintro e w1 ⟨rfl, rfl⟩
  go_wp2_with fail
  with_reducible refine Calls.mono cs ?_
  rintro e w1 ⟨rfl, rfl⟩
  clear cs
  go_wp2_with fail
  obtain ⟨WF, hWF, ⟨kk0, kk1, kk2, kk3, kk4, kk5⟩, hbf, hwf⟩ := hsix.out
  rw [hWF]
  refine bodyPost_ret (v := .tuple #[.agg #[.int .i64 0, .int .i64 0, .int .i64 0, .int .i64 0, .int .i64 0, .bool false], .int .i64 5]) (by simp [results, Tryd.results6, go_sem, kk0, kk1, kk2, kk3, kk4, kk5]) rfl ?_
  exact ⟨rfl, q, hT.out.bes hwf (by rw [hNe.out]; exact Nat.le_refl _) hn0.out⟩
set_option maxRecDepth 100000 in
theorem state_nil (w : World) (x : Int) : Calls Tryd.prog 7 #[.pointer none, .int .i64 x] w (Still (.int .i64 0) w) := by
  go_enter Tryd.func7, Tryd.ntmps7
  go_wp2_with fail
  go_ret
  exact ⟨rfl, rfl⟩
set_option maxRecDepth 100000 in
theorem reach_nil (w : World) : Calls Tryd.prog 20 #[.pointer none] w (Still (.slice none 0 0) w) := by
  go_enter Tryd.func20, Tryd.ntmps20
  go_wp2_with fail
  go_ret
  exact ⟨rfl, rfl⟩
set_option maxRecDepth 100000 in
theorem stuck_nil (w : World) : Calls Tryd.prog 8 #[.pointer none] w (Still (.bool false) w) := by
  go_enter Tryd.func8, Tryd.ntmps8
  go_wp2_with fail
  go_ret
  exact ⟨rfl, rfl⟩
set_option maxRecDepth 100000 in
theorem do_nil (x : Int) (w : World) : Calls Tryd.prog 6 #[.pointer none, .int .i64 x] w (AnsB (.tuple #[comV 0 0 0 0 0 false, .int .i64 1]) w) := by
  have hbU := below_alloc (Below.refl w.heap.size w) (.cells #[.int .i64 0, .int .i64 0, .int .i64 0, .int .i64 0, .int .i64 0, .bool false] 31)
  have kI := heap_alloc_new w (.cells #[.int .i64 0, .int .i64 0, .int .i64 0, .int .i64 0, .int .i64 0, .bool false] 31)
  obtain ⟨U, hU⟩ : ∃ U, w.alloc (.cells #[.int .i64 0, .int .i64 0, .int .i64 0, .int .i64 0, .int .i64 0, .bool false] 31) = U := ⟨_, rfl⟩
  rw [hU] at kI hbU
  obtain ⟨N, hNe⟩ : ∃ N, w.heap.size = N := ⟨_, rfl⟩
  rw [hNe] at kI
  have hsix := Lib.hid (six (x0 := 0) (x1 := 0) (x2 := 0) (x3 := 0) (x4 := 0) (x5 := false) kI)
  have h0 := cell_of kI (j := 0) rfl
  have h1 := cell_of kI (j := 1) rfl
  have h2 := cell_of kI (j := 2) rfl
  have h3 := cell_of kI (j := 3) rfl
  have h4 := cell_of kI (j := 4) rfl
  have h5 := cell_of kI (j := 5) rfl
  have z0 := frozen_of_row _ _ 0 _ _ kI
  have z1 := frozen_of_row _ _ 1 _ _ kI
  have z2 := frozen_of_row _ _ 2 _ _ kI
  have z3 := frozen_of_row _ _ 3 _ _ kI
  have z4 := frozen_of_row _ _ 4 _ _ kI
  have z5 := frozen_of_row _ _ 5 _ _ kI
  replace hbU := Lib.hid hbU
  clear kI
  go_enter Tryd.func6, Tryd.ntmps6
  go_upto_region 1 with fail
  try rw [hU]
  clear hU
  replace hNe := Lib.hid hNe
  go_wp2_with fail
  obtain ⟨WF, hWF, ⟨kk0, kk1, kk2, kk3, kk4, kk5⟩, hbf, hwf⟩ := hsix.out
  rw [hWF]
  refine bodyPost_ret (v := .tuple #[.agg #[.int .i64 0, .int .i64 0, .int .i64 0, .int .i64 0, .int .i64 0, .bool false], .int .i64 1]) (by simp [results, Tryd.results6, go_sem, kk0, kk1, kk2, kk3, kk4, kk5]) rfl ?_
  exact ⟨rfl, hbU.out.trans (by rw [hNe.out]; exact hbf)⟩
set_option maxRecDepth 100000 in
set_option maxHeartbeats 1000000 in
theorem instructions_any (p : Nat) (w : World) : Calls Tryd.prog 26 #[.pointer (some ⟨p, 0, none⟩)] w fun e w' => e = .returned (.slice (some ⟨w.heap.size, 0, none⟩) 18 18) ∧ Below w.heap.size w w' ∧ w'.heap[w.heap.size]? = some (.cells (doCells p) 61 (0, 0)) := by
  have hmf : ∀ (fn : Fn) (first cap : Array Value) (w : World), (Instr.makeFunc fn first cap).run Tryd.prog w = .ok (.func fn first cap) w := fun _ _ _ _ => rfl
  have hb := Lib.hid (below_alloc (Below.refl w.heap.size w) (.cells (doCells p) 61))
  have hk := Lib.hid (heap_alloc_new w (.cells (doCells p) 61))
  go_enter Tryd.func26, Tryd.ntmps26
  go_wp2_with fail
  go_ret
  exact ⟨rfl, hb.out, hk.out⟩
set_option maxRecDepth 100000 in
theorem stuck_any (h : IsM B w fs p q M) : Calls Tryd.prog 8 #[.pointer (some ⟨p, 0, none⟩)] w (Still (.bool (decide (St.cnt M.st 1 = 0) && (decide (M.tm.length = 0) && decide (0 < St.cnt M.st 3)))) w) := by
  have c3 : w.cell? ⟨p, 3, none⟩ = some (.pointer (some ⟨q.ps, 0, none⟩)) := cell_of h.p0 rfl
  have c4 : w.cell? ⟨p, 4, none⟩ = some (.pointer (some ⟨q.pt, 0, none⟩)) := cell_of h.p0 rfl
  have k1 := St.count_yes 1 (by omega) w h.p1
  have k3 := St.count_yes 3 (by omega) w h.p1
  have kt := Pt.tlen_any h.p2.1
  rw [h.p2.2.length_eq] at kt
  generalize St.cnt M.st 1 = a1 at *
  generalize St.cnt M.st 3 = a3 at *
  generalize M.tm.length = n at *
  clear h
  go_enter Tryd.func8, Tryd.ntmps8
  go_wp2_with fail
  with_reducible refine Calls.mono k1 ?_
  rintro e w1 ⟨rfl, rfl⟩
  clear k1
  by_cases h1 : a1 = 0
  · subst h1
    go_wp2_with fail
    with_reducible refine Calls.mono kt ?_
    rintro e w1 ⟨rfl, rfl⟩
    clear kt
    by_cases h2 : n = 0
    · subst h2
      go_wp2_with fail
      with_reducible refine Calls.mono k3 ?_
      rintro e w1 ⟨rfl, rfl⟩
      clear k3
      by_cases h3 : 0 < a3
      · have e3 : decide (0 < a3) = true := decide_eq_true h3
        go_wp2_with fail
        go_ret
        exact ⟨by simp [h3], rfl⟩
      · have e3 : decide (0 < a3) = false := decide_eq_false h3
        go_wp2_with fail
        go_ret
        exact ⟨by simp [h3], rfl⟩
    · have e2 : ((n : Int) == 0) = false := beq_eq_false_iff_ne.2 (by omega)
      have e2' : decide ((n : Int) = 0) = false := decide_eq_false (by omega)
      go_wp2_with fail
      go_ret
      exact ⟨by simp [h2], rfl⟩
  · have e1 : (a1 == 0) = false := beq_eq_false_iff_ne.2 h1
    have e1' : decide (a1 = 0) = false := decide_eq_false h1
    go_wp2_with fail
    go_ret
    exact ⟨by simp [h1], rfl⟩
end Md
end Go.Proofs.YtdhkakjiahkjnaaDoor
/- The model: Next of those that have none. -/
namespace Go.Proofs.YtdhkakjiahkjnaaDoor
open Go.RowKit Go.Lib Fx Ho Gr
set_option linter.unusedVariables false
namespace Md
open Cd (Ins zi ca c4)
variable {B w w' : World} {fs : List (List Ins)} {p : Nat} {q q' : Pl} {M M' : Mo} {H H' : Home} {g a b c n i : Nat} {r : Gor}
set_option maxRecDepth 100000 in
theorem next_no (h : IsM B w fs p q M) (x : Int) (hx : ¬ (0 ≤ x ∧ x < M.st.length)) : Calls Tryd.prog 12 #[.pointer (some ⟨p, 0, none⟩), .int .i64 x] w (AnsB (.tuple #[insV zi, .bool false]) w) := by
  have hbU := below_alloc (Below.refl w.heap.size w) (.cells #[.int .i64 0, .int .i64 0, .int .i64 0, .int .i64 0] 26)
  have kI := heap_alloc_new w (.cells #[.int .i64 0, .int .i64 0, .int .i64 0, .int .i64 0] 26)
  obtain ⟨U, hU⟩ : ∃ U, w.alloc (.cells #[.int .i64 0, .int .i64 0, .int .i64 0, .int .i64 0] 26) = U := ⟨_, rfl⟩
  rw [hU] at kI hbU
  have cs := state_no (h.below hbU) x hx
  obtain ⟨N, hNe⟩ : ∃ N, w.heap.size = N := ⟨_, rfl⟩
  rw [hNe] at kI
  have hfour := Lib.hid (four (x0 := 0) (x1 := 0) (x2 := 0) (x3 := 0) kI)
  have h0 := cell_of kI (j := 0) rfl
  have h1 := cell_of kI (j := 1) rfl
  have h2 := cell_of kI (j := 2) rfl
  have h3 := cell_of kI (j := 3) rfl
  have z0 := frozen_of_row _ _ 0 _ _ kI
  have z1 := frozen_of_row _ _ 1 _ _ kI
  have z2 := frozen_of_row _ _ 2 _ _ kI
  have z3 := frozen_of_row _ _ 3 _ _ kI
  replace hbU := Lib.hid hbU
  clear h kI
  unfold insV zi
  simp only
  go_enter Tryd.func12, Tryd.ntmps12
  go_upto_region 1 with fail
  try rw [hU]
  clear hU
  replace hNe := Lib.hid hNe
  go_wp2_with fail
  with_reducible refine Calls.mono cs ?_
  rintro e w1 ⟨rfl, rfl⟩
  clear cs
  go_wp2_with fail
  obtain ⟨WF, hWF, kk0, kk1, kk2, kk3, hbf⟩ := hfour.out
  rw [hWF]
  refine bodyPost_ret (v := .tuple #[.agg #[.int .i64 0, .int .i64 0, .int .i64 0, .int .i64 0], .bool false]) (by simp [results, Tryd.results12, go_sem, kk0, kk1, kk2, kk3]) rfl ?_
  exact ⟨rfl, hbU.out.trans (by rw [hNe.out]; exact hbf)⟩
set_option maxRecDepth 100000 in
theorem next_dead (h : IsM B w fs p q M) (hg : g < M.st.length) (hs : M.st.getD g 0 = 5) : Calls Tryd.prog 12 #[.pointer (some ⟨p, 0, none⟩), .int .i64 g] w (AnsB (.tuple #[insV zi, .bool false]) w) := by
  have hbU := below_alloc (Below.refl w.heap.size w) (.cells #[.int .i64 0, .int .i64 0, .int .i64 0, .int .i64 0] 26)
  have kI := heap_alloc_new w (.cells #[.int .i64 0, .int .i64 0, .int .i64 0, .int .i64 0] 26)
  obtain ⟨U, hU⟩ : ∃ U, w.alloc (.cells #[.int .i64 0, .int .i64 0, .int .i64 0, .int .i64 0] 26) = U := ⟨_, rfl⟩
  rw [hU] at kI hbU
  have cs := state_yes (h.below hbU) hg
  rw [hs] at cs
  obtain ⟨N, hNe⟩ : ∃ N, w.heap.size = N := ⟨_, rfl⟩
  rw [hNe] at kI
  have hfour := Lib.hid (four (x0 := 0) (x1 := 0) (x2 := 0) (x3 := 0) kI)
  have h0 := cell_of kI (j := 0) rfl
  have h1 := cell_of kI (j := 1) rfl
  have h2 := cell_of kI (j := 2) rfl
  have h3 := cell_of kI (j := 3) rfl
  have z0 := frozen_of_row _ _ 0 _ _ kI
  have z1 := frozen_of_row _ _ 1 _ _ kI
  have z2 := frozen_of_row _ _ 2 _ _ kI
  have z3 := frozen_of_row _ _ 3 _ _ kI
  replace hbU := Lib.hid hbU
  clear h kI
  unfold insV zi
  simp only
  go_enter Tryd.func12, Tryd.ntmps12
  go_upto_region 1 with fail
  try rw [hU]
  clear hU
  replace hNe := Lib.hid hNe
  go_wp2_with fail
  with_reducible refine Calls.mono cs ?_
  rintro e w1 ⟨rfl, rfl⟩
  clear cs
  go_wp2_with fail
  obtain ⟨WF, hWF, kk0, kk1, kk2, kk3, hbf⟩ := hfour.out
  rw [hWF]
  refine bodyPost_ret (v := .tuple #[.agg #[.int .i64 0, .int .i64 0, .int .i64 0, .int .i64 0], .bool false]) (by simp [results, Tryd.results12, go_sem, kk0, kk1, kk2, kk3]) rfl ?_
  exact ⟨rfl, hbU.out.trans (by rw [hNe.out]; exact hbf)⟩
end Md
end Go.Proofs.YtdhkakjiahkjnaaDoor
/- The model: what its stacks, globals and objects tell: copies. -/
namespace Go.Proofs.YtdhkakjiahkjnaaDoor
open Go.RowKit Go.Lib Fx Ho Gr
set_option linter.unusedVariables false
namespace Md
open Cd (Ins zi ca c4)
variable {B w w' : World} {fs : List (List Ins)} {p : Nat} {q q' : Pl} {M M' : Mo} {H H' : Home} {g a b c n i : Nat} {r : Gor} {v : Value} {zs : List Int}
/-- A copy of numbers. -/
def CopyR (w : World) (zs : List Int) (e : Ending) (w' : World) : Prop := ∃ v', e = .returned v' ∧ Below w.heap.size w w' ∧ Ints w' (fun k => w.heap.size ≤ k) v' zs
end Md
end Go.Proofs.YtdhkakjiahkjnaaDoor
/- slices.Clone of a row of instructions. -/
namespace Go.Proofs.YtdhkakjiahkjnaaDoor
open Go.RowKit Go.Lib Fx Ho Gr
set_option linter.unusedVariables false
namespace Md
open Cd (Ins zi ca c4 IRow ca_get ca_len eltIns)
variable {B w w' W : World} {v : Value} {l : List Ins} {n K : Nat}
theorem ca_one : ∀ u ∈ ca l, u.oneCell' = true := fun u hu => by
  unfold ca at hu
  obtain ⟨x, _, hx⟩ := List.mem_flatMap.1 hu
  unfold c4 at hx
  simp only [List.mem_cons, List.not_mem_nil, or_false] at hx
  rcases hx with rfl | rfl | rfl | rfl <;> rfl
theorem src_irow (h : IRow W v l) (h0 : 0 < l.length) (hc : ∃ sp cap, v = .slice sp l.length cap) : Src Tryd.prog 4 24 v l.length (ca l) W := by
  obtain ⟨sp, cap, rfl, h1, h2⟩ := h
  obtain ⟨b, off, rfl, _⟩ := h2 0 h0
  refine Src.ofSlice _ Tryd.underlying24 ⟨b, off, none⟩ l.length cap (ca l) (by rw [ca_len]) (fun j u hj => ?_) ca_one
  have hl := (List.getElem?_eq_some_iff.1 hj).1
  rw [ca_len] at hl
  obtain ⟨i, k, hk, rfl⟩ : ∃ i k, k < 4 ∧ j = i * 4 + k := ⟨j / 4, j % 4, Nat.mod_lt _ (by omega), by omega⟩
  have hi : i < l.length := by omega
  obtain ⟨b', off', e, c0, c1, c2, c3⟩ := h2 i hi
  cases e
  obtain ⟨e0, e1, e2, e3⟩ := ca_get l i hi
  rw [addr_add]
  rcases (show k = 0 ∨ k = 1 ∨ k = 2 ∨ k = 3 by omega) with rfl | rfl | rfl | rfl
  · rw [Nat.add_zero] at hj ⊢
    rw [e0] at hj; rw [c0, ← hj]
  · rw [e1] at hj; rw [← Nat.add_assoc, c1, ← hj]
  · rw [e2] at hj; rw [← Nat.add_assoc, c2, ← hj]
  · rw [e3] at hj; rw [← Nat.add_assoc, c3, ← hj]
theorem lit4 (h : K < W.heap.size) : GRow 4 W (.slice (some ⟨K, 0, none⟩) 0 0) 0 [] := ⟨some ⟨K, 0, none⟩, K, 0, 0, rfl, ⟨by decide, fun h => (by omega), fun h => (by omega), by simp, fun j u h => (by simp at h), fun j h => (by omega)⟩, ⟨by decide, fun j h => by omega⟩, .inl ⟨rfl, h⟩⟩
set_option maxRecDepth 100000 in
theorem clone_ins (h : IRow w v l) (h0 : 0 < l.length) (h1 : l.length ≤ 1000) : Calls Tryd.prog 25 #[v] w fun e w' => ∃ v', e = .returned v' ∧ GRow 4 w' v' l.length (ca l) ∧ (∀ k, v'.ownBlock = some k → w.heap.size ≤ k) ∧ Below w.heap.size w w' := by
  have hb := below_alloc (Below.refl w.heap.size w) (.cells #[] 26)
  have hK : w.heap.size < (w.alloc (.cells #[] 26)).heap.size := by show _ < (w.heap.push _).size; rw [Array.size_push]; omega
  have hrow := Lib.hid (lit4 hK)
  obtain ⟨sp, cap, ev, _, hat⟩ := id h
  obtain ⟨b, off, es, _⟩ := hat 0 h0
  have hsrc := Lib.hid (src_irow (h.below hb) h0 ⟨_, _, ev⟩)
  subst ev
  subst es
  have heq : ∀ (a : Addr) (n c : Nat) W, (binOp .eql 24 (.slice (some a) n c) (.slice none 0 0)).run Tryd.prog W = .ok (.bool false) W := fun _ _ _ _ => by rfl
  have hbd : 0 + l.length ≤ 1000000 := by omega
  have key : Hid (∀ v8 w8, GRow 4 w8 v8 (0 + l.length) ([] ++ ca l) → Wrote (fun k => (Value.slice (some ⟨w.heap.size, 0, none⟩) 0 0).ownBlock = some k) (w.alloc (.cells #[] 26)) (fun k => v8.ownBlock = some k) w8 → GRow 4 w8 v8 l.length (ca l) ∧ (∀ k, v8.ownBlock = some k → w.heap.size ≤ k) ∧ Below w.heap.size w w8) := Lib.hid fun v8 w8 g1 g2 => by
    rw [Nat.zero_add, List.nil_append] at g1
    exact ⟨g1, fun k hk => (g2.home k hk).elim (fun e => by obtain rfl : w.heap.size = k := Option.some.inj e; exact Nat.le_refl _) (fun e => Nat.le_trans hb.size e), hb.trans (Cd.below_of_w g2 (fun k e => by obtain rfl : w.heap.size = k := Option.some.inj e; exact Nat.le_refl _) hb.size)⟩
  clear hat hb hK h
  generalize l.length = n at *
  go_enter Tryd.func25, Tryd.ntmps25
  go_wp2_with (at_builtin; refine wpList_append_g rfl (.tmp 5) (.tmp 6) rfl rfl eltIns hrow.out rfl rfl hsrc.out hbd ?_; intro v8 w8 g1 g2; have hfin := Lib.hid (key.out v8 w8 g1 g2); clear key g1 g2 hrow hsrc)
  go_ret
  exact ⟨_, rfl, hfin.out⟩
end Md
end Go.Proofs.YtdhkakjiahkjnaaDoor
/- The model: what is reached, and what is still to be gone through. -/
namespace Go.Proofs.YtdhkakjiahkjnaaDoor
open Go.RowKit Go.Lib Fx Ho Gr
set_option linter.unusedVariables false
namespace Md
variable {w w' : World} {R n : Nat} {v1 v2 : Value} {T : List Int} {L : List Bool} {x : Int}
def bls (L : List Bool) : List Value := L.map Value.bool
/-- What is reached (by identity), and what is to be gone through yet. -/
structure Rq (w : World) (R : Nat) (v1 v2 : Value) (L : List Bool) (T : List Int) : Prop where
  head : w.heap[R]? = some (.cells #[v1, v2] 95 (0, 0))
  is : GRow 1 w v1 L.length (bls L)
  todo : GRow 1 w v2 T.length (cells T)
  o1 : v1.ownBlock ≠ some R
  o2 : v2.ownBlock ≠ some R
  o12 : ∀ k, v1.ownBlock = some k → v2.ownBlock ≠ some k
def NextR (w : World) (R : Nat) (v1 v2 : Value) (L : List Bool) (T : List Int) (e : Ending) (w' : World) : Prop := (T = [] ∧ e = .returned (.tuple #[.int .i64 0, .bool false]) ∧ w = w') ∨ (∃ T' x v2', T = T' ++ [x] ∧ e = .returned (.tuple #[.int .i64 x, .bool true]) ∧ Rq w' R v1 v2' L T' ∧ v2'.ownBlock = v2.ownBlock ∧ Wrote (fun k => k = R) w (fun k => k = R) w')
set_option maxRecDepth 100000 in
theorem rnext_any (h : Rq w R v1 v2 L T) (hT : T.length ≤ 1000000) : Calls Tryd.prog 36 #[.pointer (some ⟨R, 0, none⟩)] w (NextR w R v1 v2 L T) := by
  have c1 : w.cell? ⟨R, 1, none⟩ = some v2 := cell_of h.head rfl
  rcases List.eq_nil_or_concat T with rfl | ⟨T', x, rfl⟩
  · obtain ⟨sp, cap, e⟩ := h.todo.slice
    rw [e] at c1
    have hfin : Hid (NextR w R v1 v2 L [] (.returned (.tuple #[.int .i64 0, .bool false])) w) := Lib.hid (.inl ⟨rfl, rfl, rfl⟩)
    clear h e
    simp only [List.length_nil] at c1
    go_enter Tryd.func36, Tryd.ntmps36
    go_wp2_with fail
    go_ret2
    exact hfin.out
  · rw [List.concat_eq_append] at h hT ⊢
    have hl : (T' ++ [x]).length = T'.length + 1 := by rw [List.length_append]; rfl
    obtain ⟨ao, b, off, cap, e, hle, hm, hc, hcell⟩ := h.todo.cell
    rw [hl] at e hle hT
    obtain ⟨rfl, _, ho⟩ := hc (by omega)
    have cx := (hcell T'.length (.int .i64 x) (by rw [cells_app, List.getElem?_append_right (by rw [cells_len]; omega), cells_len, Nat.sub_self]; rfl)).1
    have htk : GRow 1 w (.slice (some ⟨b, off, none⟩) T'.length cap) T'.length (cells T') := by
      have h2 := h.todo
      rw [e, hl] at h2
      have h3 := h2.take (k := T'.length) (by omega)
      rw [Nat.mul_one, cells_app, List.take_left' (cells_len T')] at h3
      exact h3
    have hw : Wrote (fun k => k = R) w (fun k => k = R) (w.setCell ⟨R, 1, none⟩ (.slice (some ⟨b, off, none⟩) T'.length cap)) := wrote_setCell (a := ⟨R, 1, none⟩) rfl rfl rfl rfl rfl
    have hfz : w.frozen? ⟨R, 1, none⟩ = false := frozen_of_row _ _ _ _ _ h.head
    have hfin : Hid (NextR w R v1 v2 L (T' ++ [x]) (.returned (.tuple #[.int .i64 x, .bool true])) (w.setCell ⟨R, 1, none⟩ (.slice (some ⟨b, off, none⟩) T'.length cap))) := Lib.hid (.inr ⟨T', x, _, rfl, rfl, ⟨by rw [heap_setCell_same _ R 1 _ _ _ h.head]; rfl, h.is.wrote hw (fun k hk e2 => h.o1 (by rw [hk, e2])), htk.wrote hw (fun k hk e2 => h.o2 (by rw [e]; rw [← e2]; exact hk)), h.o1, by have := h.o2; rw [e] at this; exact this, fun k hk => by have := h.o12 k hk; rw [e] at this; exact this⟩, by rw [e]; rfl, hw⟩)
    rw [e] at c1
    generalize T'.length = m at *
    have m0 : (0 : Int) ≤ (m : Int) := by omega
    have m1 : IntKind.i64.wrap (((m + 1 : Nat) : Int) - 1) = (m : Int) := by rw [IntKind.wrap_i64]; omega
    have m2 : ¬ (m : Int) < 0 := by omega
    have m3 : decide ((m : Int) < 0) = false := decide_eq_false m2
    have m4 : (m : Int) ≤ (cap : Int) := by omega
    have hm9 : cap ≤ 9223372036854775807 := by unfold maxLen at hm; exact hm
    clear h hc hcell htk hw hl e ho
    go_enter Tryd.func36, Tryd.ntmps36
    go_wp2_with fail
    go_ret2
    exact hfin.out
end Md
end Go.Proofs.YtdhkakjiahkjnaaDoor
