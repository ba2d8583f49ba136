import Derived.Test.YtdhkakjiahkjnaaDoorMA5
import Derived.Deep.OwnRows
/- The model: spawn, alloc. -/
namespace Go.Proofs.YtdhkakjiahkjnaaDoor
open Go.RowKit Go.Lib Fx Ho Gr
set_option linter.unusedVariables false
namespace Md
open Cd (Ins zi ca c4)
variable {B w w' : World} {fs : List (List Ins)} {p : Nat} {q q' : Pl} {M M' : Mo} {H H' : Home} {g a b c n i : Nat} {r : Gor}
theorem step_call {P : Program} {ops : Array Oper} {o : Oper} {a : Act} {w : World} {K : Act → World → Prop} {Q : Exit → Act → World → Prop} {E : Prop} {post : Ending → World → Prop} (hgd : o.guard = none) (f : Nat) (xs : Array Operand) {ts : Array TypeId} (ho : o.op = .call { callee := .value (.func f), args := xs, argTypes := ts }) (args : Array Value) (ha : xs.map a.eval = args) (hcf : (callFunc f args).run P w = .ok (.enter f args) w)
    (hc : Calls P f args w post) (hK : ∀ e w', post e w' → ∃ v, e = .returned v ∧ K (a.put o.dst v) w') : if Region.wanted o (yielded ops a.tmps) = true then Oper.wp P o a w K Q else E := by
  subst ha
  have hw : Region.wanted o (yielded ops a.tmps) = true := by simp [Region.wanted, hgd]
  rw [if_pos hw]
  unfold Oper.wp
  have hrun : (execOp a.eval o).run P w = .ok (.enter f (xs.map a.eval)) w := by
    simp [execOp, ho, resolve, invoke, Act.eval, Deferred.ofValue, hcf]
  rw [hrun, Oper.upon_enter]
  refine hc.mono fun e w'' hh => ?_
  obtain ⟨v, rfl, h⟩ := hK _ _ hh
  exact h
theorem step_call3 {P : Program} {ops : Array Oper} {o : Oper} {a : Act} {w : World} {K : Act → World → Prop} {Q : Exit → Act → World → Prop} {E : Prop} {post : Ending → World → Prop} (hgd : o.guard = none) (f : Nat) (x1 x2 x3 : Operand) {ts : Array TypeId} (ho : o.op = .call { callee := .value (.func f), args := #[x1, x2, x3], argTypes := ts }) (v1 v2 v3 : Value) (ha1 : a.eval x1 = v1) (ha2 : a.eval x2 = v2) (ha3 : a.eval x3 = v3) (hcf : (callFunc f #[v1, v2, v3]).run P w = .ok (.enter f #[v1, v2, v3]) w)
    (hc : Calls P f #[v1, v2, v3] w post) (hK : ∀ e w', post e w' → ∃ v, e = .returned v ∧ K (a.put o.dst v) w') : if Region.wanted o (yielded ops a.tmps) = true then Oper.wp P o a w K Q else E :=
  step_call hgd f #[x1, x2, x3] ho #[v1, v2, v3] (by simp [ha1, ha2, ha3]) hcf hc hK
theorem made_ints (n : Nat) : madeCells #[Value.int .i64 0] n = (cells (List.replicate n 0)).toArray := by
  unfold madeCells cells
  apply Array.ext'
  simp only [List.map_replicate, Array.toList_map, Array.toList_range]
  refine List.ext_getElem (by simp) fun i h1 h2 => ?_
  simp [Nat.mod_one]
theorem grow_ints {W : World} {K : Nat} {zs : List Int} {e : TypeId} (hb : W.heap[K]? = some (.cells (cells zs).toArray e (0, 0))) (hz : zs.length ≤ 1000000) : GRow 1 W (.slice (some ⟨K, 0, none⟩) zs.length zs.length) zs.length (cells zs) := by
  have hmx : (1000000 : Nat) ≤ maxLen := by unfold maxLen; omega
  refine ⟨_, K, 0, zs.length, rfl, ⟨Nat.le_refl _, fun _ => rfl, fun _ => block_lt hb, by rw [cells_len]; omega, fun j u hj => ?_, fun j hj => by omega⟩, ⟨by omega, fun j hj => frozen_of_row _ _ _ _ _ hb⟩, .inl ⟨rfl, block_lt hb⟩⟩
  exact cell_of hb (by rw [← hj]; simp)
set_option maxRecDepth 100000 in
set_option maxHeartbeats 4000000 in
theorem spawn_yes (h : IsM B w fs p q M) (hg : g < M.gs.length) (hr : M.gs.getD g g0 = r) (hk : r.sk.length = 16) (x : Int) (hb : b < 16) (hs : M.st.length < 1024) (hgl : M.gs.length ≤ 2000) {y : Int} (hy : r.sk.getD b 0 = y) : Calls Tryd.prog 48 #[.pointer (some ⟨p, 0, none⟩), .int .i64 g, .agg #[.int .i64 x, .int .i64 a, .int .i64 b, .int .i64 c]] w (MR B w fs p q { M with st := M.st ++ [1], gs := M.gs ++ [fresh a y] } M.st.length 1 false) := by
  obtain ⟨kI, kO, hbU, sU⟩ := news w x a b c
  obtain ⟨U, hU⟩ : ∃ U, (w.alloc (insC x a b c)).alloc (outC 0 0 false) = U := ⟨_, rfl⟩
  rw [hU] at kI kO hbU sU
  have hM := h.below hbU
  obtain ⟨gb, go, cap, c2, cg, hbk⟩ := hM.find hg hr
  have i0 : U.cell? ⟨w.heap.size, 0, none⟩ = some (.int .i64 x) := cell_of kI rfl
  have i1 : U.cell? ⟨w.heap.size, 1, none⟩ = some (.int .i64 a) := cell_of kI rfl
  have i2 : U.cell? ⟨w.heap.size, 2, none⟩ = some (.int .i64 b) := cell_of kI rfl
  have i3 : U.cell? ⟨w.heap.size, 3, none⟩ = some (.int .i64 c) := cell_of kI rfl
  have hn0 : Hid (∀ i k, i < 8 → hm p q i k → k ≠ w.heap.size + 1) := Lib.hid fun i k hi hk => by have := (h.ap.low i k hi hk).2; omega
  have hX : w.heap.size ≤ w.heap.size + 1 := by omega
  have g0' : (0 : Int) ≤ (g : Int) := by omega
  have g1 : (g : Int) < (M.gs.length : Int) := by omega
  have a0 : (0 : Int) ≤ (a : Int) := by omega
  have b0 : (0 : Int) ≤ (b : Int) := by omega
  have hUlt : w.heap.size + 1 < U.heap.size := by omega
  have b1 : (b : Int) < 16 := by omega
  have hMd : Hid (Tn B w fs p q U.drew q M) := Lib.hid (tn_below h hbU.drew)
  have hO : Hid (U.drew.heap[w.heap.size + 1]? = some (.cells #[.int .i64 0, .int .i64 0, .bool false] 59 (0, 0))) := Lib.hid kO
  have hMU : Hid (Tn B w fs p q U q M) := Lib.hid (tn_below h hbU)
  have hOU := Lib.hid kO
  clear h hM kI kO hbU
  go_enter Tryd.func48, Tryd.ntmps48
  go_upto_region 1 with fail
  have hU : (w.alloc (.cells #[.int .i64 x, .int .i64 a, .int .i64 b, .int .i64 c] 26)).alloc (.cells #[.int .i64 0, .int .i64 0, .bool false] 59) = U := hU
  rw [hU]
  clear hU
  obtain ⟨X, hXe⟩ : ∃ X, w.heap.size + 1 = X := ⟨_, rfl⟩
  rw [hXe] at hn0 hX hO hOU hUlt ⊢
  obtain ⟨gk, hgk⟩ : ∃ k, q.bs.getD g 0 = k := ⟨_, rfl⟩
  have hgX : gk ≠ X := hn0.out 4 gk (by omega) (.inr (hgk ▸ bs_in hMd.out.is.p4.len hg))
  rw [hgk] at cg hbk
  have vb : U.cell? ⟨gk, 3 + b, none⟩ = some (.int .i64 y) := by rw [← hy]; exact cell_of hbk (gcl_at r (a := b) (by omega))
  clear hy
  have cb := Lib.hid (begin_any hMd.out.is hs hgl a y)
  have hlX : X < U.drew.heap.size := hUlt
  clear hMU hOU i0 i3 hbk sU hXe
  go_upto_region 1 with fail
  go_region_law (refine step_call3 rfl 27 (.tmp 10) (.tmp 12) (.tmp 25) rfl (.pointer (some ⟨p, 0, none⟩)) (.int .i64 a) (.int .i64 y) ?_ ?_ ?_ ?_ cb.out ?_; rfl; rfl; rfl; rfl; rintro e wz ⟨rfl, q2, hT⟩; refine ⟨_, rfl, ?_⟩)
  all_goals
    obtain ⟨hn2, hX2⟩ := hT.free hn0.out hlX
    have hM2 := Lib.hid (hMd.out.trans hT)
    have hO2 : Hid (wz.heap[X]? = some (.cells #[.int .i64 0, .int .i64 0, .bool false] 59 (0, 0))) := Lib.hid (hX2.trans hO.out)
    replace hn2 := Lib.hid hn2
    clear hT hX2 hO hMd cb
    have con := on_any ((M.st.length : Int)) wz
    go_wp2_with fail
    with_reducible refine Calls.mono con ?_
    rintro e w3 ⟨rfl, hb3⟩
    obtain ⟨t0, t1, t2, f0, f1, f2, kX, hfin⟩ := (hM2.out.more hb3).told (v := (M.st.length : Int)) (ts := 1) (ft := false) ((hb3.block _ (block_lt hO2.out)).trans hO2.out) hX hn2.out
    clear hM2 hO2 con hb3
    unfold outV
    go_wp2_with fail
    refine bodyPost_ret (results_cell_row (by rfl) _ _ X 59 _ (0, 0) _ rfl kX Tryd.underlying59 rfl (by kernel_rfl)) rfl ?_
    exact ⟨rfl, _, hfin.out⟩
set_option maxRecDepth 100000 in
set_option maxHeartbeats 4000000 in
theorem spawn_full (h : IsM B w fs p q M) (hg : g < M.gs.length) (hr : M.gs.getD g g0 = r) (hk : r.sk.length = 16) (x : Int) (hb : b < 16) (hs : M.st.length = 1024) {y : Int} (hy : r.sk.getD b 0 = y) : Calls Tryd.prog 48 #[.pointer (some ⟨p, 0, none⟩), .int .i64 g, .agg #[.int .i64 x, .int .i64 a, .int .i64 b, .int .i64 c]] w (MR B w fs p q M 0 5 true) := by
  obtain ⟨kI, kO, hbU, sU⟩ := news w x a b c
  obtain ⟨U, hU⟩ : ∃ U, (w.alloc (insC x a b c)).alloc (outC 0 0 false) = U := ⟨_, rfl⟩
  rw [hU] at kI kO hbU sU
  have hM := h.below hbU
  obtain ⟨gb, go, cap, c2, cg, hbk⟩ := hM.find hg hr
  have i0 : U.cell? ⟨w.heap.size, 0, none⟩ = some (.int .i64 x) := cell_of kI rfl
  have i1 : U.cell? ⟨w.heap.size, 1, none⟩ = some (.int .i64 a) := cell_of kI rfl
  have i2 : U.cell? ⟨w.heap.size, 2, none⟩ = some (.int .i64 b) := cell_of kI rfl
  have i3 : U.cell? ⟨w.heap.size, 3, none⟩ = some (.int .i64 c) := cell_of kI rfl
  have hn0 : Hid (∀ i k, i < 8 → hm p q i k → k ≠ w.heap.size + 1) := Lib.hid fun i k hi hk => by have := (h.ap.low i k hi hk).2; omega
  have hX : w.heap.size ≤ w.heap.size + 1 := by omega
  have g0' : (0 : Int) ≤ (g : Int) := by omega
  have g1 : (g : Int) < (M.gs.length : Int) := by omega
  have a0 : (0 : Int) ≤ (a : Int) := by omega
  have b0 : (0 : Int) ≤ (b : Int) := by omega
  have hUlt : w.heap.size + 1 < U.heap.size := by omega
  have b1 : (b : Int) < 16 := by omega
  have hMd : Hid (Tn B w fs p q U.drew q M) := Lib.hid (tn_below h hbU.drew)
  have hO : Hid (U.drew.heap[w.heap.size + 1]? = some (.cells #[.int .i64 0, .int .i64 0, .bool false] 59 (0, 0))) := Lib.hid kO
  have hMU : Hid (Tn B w fs p q U q M) := Lib.hid (tn_below h hbU)
  have hOU := Lib.hid kO
  clear h hM kI kO hbU
  go_enter Tryd.func48, Tryd.ntmps48
  go_upto_region 1 with fail
  have hU : (w.alloc (.cells #[.int .i64 x, .int .i64 a, .int .i64 b, .int .i64 c] 26)).alloc (.cells #[.int .i64 0, .int .i64 0, .bool false] 59) = U := hU
  rw [hU]
  clear hU
  obtain ⟨X, hXe⟩ : ∃ X, w.heap.size + 1 = X := ⟨_, rfl⟩
  rw [hXe] at hn0 hX hO hOU hUlt ⊢
  obtain ⟨gk, hgk⟩ : ∃ k, q.bs.getD g 0 = k := ⟨_, rfl⟩
  have hgX : gk ≠ X := hn0.out 4 gk (by omega) (.inr (hgk ▸ bs_in hMd.out.is.p4.len hg))
  rw [hgk] at cg hbk
  have vb : U.cell? ⟨gk, 3 + b, none⟩ = some (.int .i64 y) := by rw [← hy]; exact cell_of hbk (gcl_at r (a := b) (by omega))
  clear hy
  have cb := Lib.hid (begin_full hMd.out.is hs a y)
  have hlX : X < U.drew.heap.size := hUlt
  clear hMU hOU i0 i3 hbk sU hXe
  go_upto_region 1 with fail
  go_region_law (refine step_call3 rfl 27 (.tmp 10) (.tmp 12) (.tmp 25) rfl (.pointer (some ⟨p, 0, none⟩)) (.int .i64 a) (.int .i64 y) ?_ ?_ ?_ ?_ cb.out ?_; rfl; rfl; rfl; rfl; rintro e wz ⟨rfl, q2, hT⟩; refine ⟨_, rfl, ?_⟩)
  all_goals
    obtain ⟨hn2, hX2⟩ := hT.free hn0.out hlX
    have hM2 := Lib.hid (hMd.out.trans hT)
    have hO2 : Hid (wz.heap[X]? = some (.cells #[.int .i64 0, .int .i64 0, .bool false] 59 (0, 0))) := Lib.hid (hX2.trans hO.out)
    replace hn2 := Lib.hid hn2
    clear hT hX2 hO hMd cb
    have con := fault_any wz
    go_wp2_with fail
    with_reducible refine Calls.mono con ?_
    rintro e w3 ⟨rfl, hb3⟩
    obtain ⟨t0, t1, t2, f0, f1, f2, kX, hfin⟩ := (hM2.out.more hb3).told (v := 0) (ts := 5) (ft := true) ((hb3.block _ (block_lt hO2.out)).trans hO2.out) hX hn2.out
    clear hM2 hO2 con hb3
    unfold outV
    go_wp2_with fail
    refine bodyPost_ret (results_cell_row (by rfl) _ _ X 59 _ (0, 0) _ rfl kX Tryd.underlying59 rfl (by kernel_rfl)) rfl ?_
    exact ⟨rfl, _, hfin.out⟩
set_option maxRecDepth 100000 in
set_option maxHeartbeats 4000000 in
theorem alloc_any (h : IsM B w fs p q M) (hg : g < M.gs.length) (hr : M.gs.getD g g0 = r) (hk : r.sk.length = 16) (x : Int) (ha : a < 16) (hb : b < 1000) (hob : M.ob.length < 900000) : Calls Tryd.prog 41 #[.pointer (some ⟨p, 0, none⟩), .int .i64 g, .agg #[.int .i64 x, .int .i64 a, .int .i64 b, .int .i64 c]] w (MR B w fs p q { M with ob := M.ob ++ [List.replicate (b + 1) 0], gs := M.gs.set g { r with sk := r.sk.set a (M.ob.length + 1) } } (M.ob.length + 1) 1 false) := by
  have h0 := Lib.hid h
  obtain ⟨kI, kO, hbU, sU⟩ := news w x a b c
  obtain ⟨U, hU⟩ : ∃ U, (w.alloc (insC x a b c)).alloc (outC 0 0 false) = U := ⟨_, rfl⟩
  rw [hU] at kI kO hbU sU
  have hM := h.below hbU
  obtain ⟨gb, go, cap, c2, cg, hbk⟩ := hM.find hg hr
  have i0 : U.cell? ⟨w.heap.size, 0, none⟩ = some (.int .i64 x) := cell_of kI rfl
  have i1 : U.cell? ⟨w.heap.size, 1, none⟩ = some (.int .i64 a) := cell_of kI rfl
  have i2 : U.cell? ⟨w.heap.size, 2, none⟩ = some (.int .i64 b) := cell_of kI rfl
  have i3 : U.cell? ⟨w.heap.size, 3, none⟩ = some (.int .i64 c) := cell_of kI rfl
  have hn0 : Hid (∀ i k, i < 8 → hm p q i k → k ≠ w.heap.size + 1) := Lib.hid fun i k hi hk => by have := (h.ap.low i k hi hk).2; omega
  have hX : w.heap.size ≤ w.heap.size + 1 := by omega
  have g0' : (0 : Int) ≤ (g : Int) := by omega
  have g1 : (g : Int) < (M.gs.length : Int) := by omega
  have a0 : (0 : Int) ≤ (a : Int) := by omega
  have b0 : (0 : Int) ≤ (b : Int) := by omega
  have hUlt : w.heap.size + 1 < U.heap.size := by omega
  have a1 : (a : Int) < 16 := by omega
  have hMd : Hid (Tn B w fs p q U.drew q M) := Lib.hid (tn_below h hbU.drew)
  have hO : Hid (U.drew.heap[w.heap.size + 1]? = some (.cells #[.int .i64 0, .int .i64 0, .bool false] 59 (0, 0))) := Lib.hid kO
  have hMU : Hid (Tn B w fs p q U q M) := Lib.hid (tn_below h hbU)
  have hOU := Lib.hid kO
  clear h hM kI kO hbU
  go_enter Tryd.func41, Tryd.ntmps41
  go_upto_region 1 with fail
  have hU : (w.alloc (.cells #[.int .i64 x, .int .i64 a, .int .i64 b, .int .i64 c] 26)).alloc (.cells #[.int .i64 0, .int .i64 0, .bool false] 59) = U := hU
  rw [hU]
  clear hU
  obtain ⟨X, hXe⟩ : ∃ X, w.heap.size + 1 = X := ⟨_, rfl⟩
  rw [hXe] at hn0 hX hO hOU hUlt ⊢
  obtain ⟨gk, hgk⟩ : ∃ k, q.bs.getD g 0 = k := ⟨_, rfl⟩
  have hgX : gk ≠ X := hn0.out 4 gk (by omega) (.inr (hgk ▸ bs_in hMd.out.is.p4.len hg))
  rw [hgk] at cg hbk
  have hmk : ∀ W : World, (Instr.makeSlice 23 (.int .i64 ((b : Int) + 1)) (.int .i64 ((b : Int) + 1))).run Tryd.prog W = .ok (.slice (some ⟨W.heap.size, 0, none⟩) (b + 1) (b + 1)) (W.alloc (.cells (cells (List.replicate (b + 1) 0)).toArray 3)) := fun W => by
    have := run_make_row' (P := Tryd.prog) 23 3 (.int .i64 0) 8 Tryd.underlying23 (by kernel_rfl) rfl .i64 .i64 (b + 1) (by omega) (by omega) W
    rw [made_ints] at this
    push_cast at this
    exact this
  have c8 : U.cell? ⟨p, 8, none⟩ = some q.obv := cell_of hMU.out.is.p0 rfl
  obtain ⟨so, co, eo⟩ := hMU.out.is.p5.row.slice
  rw [eo] at c8
  have hpl : p < U.heap.size := block_lt hMU.out.is.p0
  have bA := below_alloc (Below.refl U.heap.size U) (.cells (cells (List.replicate (b + 1) 0)).toArray 3)
  have bB0 := below_alloc bA (.cells #[.slice (some ⟨U.heap.size, 0, none⟩) (b + 1) (b + 1)] 23)
  have bB := bB0.drew
  have c8a := cell_then bA c8
  have c8b := cell_then bB0 c8
  have s1 : ∀ (u : World) (o : Obj), (u.alloc o).heap.size = u.heap.size + 1 := fun u o => by show (u.heap.push _).size = _; rw [Array.size_push]
  have kA := heap_alloc_new U (.cells (cells (List.replicate (b + 1) 0)).toArray 3)
  have kB : ((U.alloc (.cells (cells (List.replicate (b + 1) 0)).toArray 3)).alloc (.cells #[.slice (some ⟨U.heap.size, 0, none⟩) (b + 1) (b + 1)] 23)).drew.heap[U.heap.size]? = some (.cells (cells (List.replicate (b + 1) 0)).toArray 3 (0, 0)) := ((below_alloc (Below.refl _ (U.alloc (.cells (cells (List.replicate (b + 1) 0)).toArray 3))) (.cells #[.slice (some ⟨U.heap.size, 0, none⟩) (b + 1) (b + 1)] 23)).block _ (block_lt kA)).trans kA
  have kC : ((U.alloc (.cells (cells (List.replicate (b + 1) 0)).toArray 3)).alloc (.cells #[.slice (some ⟨U.heap.size, 0, none⟩) (b + 1) (b + 1)] 23)).drew.heap[U.heap.size + 1]? = some (.cells #[.slice (some ⟨U.heap.size, 0, none⟩) (b + 1) (b + 1)] 23 (0, 0)) := by have := heap_alloc_new (U.alloc (.cells (cells (List.replicate (b + 1) 0)).toArray 3)) (.cells #[.slice (some ⟨U.heap.size, 0, none⟩) (b + 1) (b + 1)] 23); rw [s1] at this; exact this
  have hrow : Hid (GRow 1 ((U.alloc (.cells (cells (List.replicate (b + 1) 0)).toArray 3)).alloc (.cells #[.slice (some ⟨U.heap.size, 0, none⟩) (b + 1) (b + 1)] 23)).drew (.slice so M.ob.length co) M.ob.length q.os) := Lib.hid (by have := hMU.out.is.p5.row.below bB; rw [eo] at this; exact this)
  have hsrc : Hid (Src Tryd.prog 1 51 (.slice (some ⟨U.heap.size + 1, 0, none⟩) 1 1) 1 [.slice (some ⟨U.heap.size, 0, none⟩) (b + 1) (b + 1)] ((U.alloc (.cells (cells (List.replicate (b + 1) 0)).toArray 3)).alloc (.cells #[.slice (some ⟨U.heap.size, 0, none⟩) (b + 1) (b + 1)] 23)).drew) := Lib.hid (src_new (s := 1) (A := #[.slice (some ⟨U.heap.size, 0, none⟩) (b + 1) (b + 1)]) Tryd.underlying51 rfl (by simp [Value.oneCell']) kC)
  have hbd : M.ob.length + 1 ≤ 1000000 := by omega
  have hlX : X < U.heap.size := hUlt
  have key : Hid (∀ v8 w8, GRow 1 w8 v8 (M.ob.length + 1) (q.os ++ [.slice (some ⟨U.heap.size, 0, none⟩) (b + 1) (b + 1)]) → Wrote (fun k => (Value.slice so M.ob.length co).ownBlock = some k) ((U.alloc (.cells (cells (List.replicate (b + 1) 0)).toArray 3)).alloc (.cells #[.slice (some ⟨U.heap.size, 0, none⟩) (b + 1) (b + 1)] 23)).drew (fun k => v8.ownBlock = some k) w8 → (∃ s c, v8 = .slice s (M.ob.length + 1) c) ∧ w8.cell? ⟨p, 8, none⟩ = some (.slice so M.ob.length co) ∧ w8.frozen? ⟨p, 8, none⟩ = false ∧ Hid (∃ q', Tn B U fs p q (w8.setCell ⟨p, 8, none⟩ v8) q' { M with ob := M.ob ++ [List.replicate (b + 1) 0] } ∧ q'.bs = q.bs ∧ q'.obv = v8)) := Lib.hid fun v8 w8 g1 g2 => by
    have hov := grow_ints (zs := List.replicate (b + 1) 0) kB (by rw [List.length_replicate]; omega)
    rw [List.length_replicate] at hov
    obtain ⟨k0, k1, k2⟩ := hMU.out.is.addO bB (x := List.replicate (b + 1) 0) (by rw [List.length_replicate]; exact hov) (fun k e => by obtain rfl : U.heap.size = k := Option.some.inj e; exact Nat.le_refl _) g1 (by rw [eo]; exact g2)
    rw [eo] at k0
    exact ⟨g1.slice, k0, k1, Lib.hid ⟨_, k2.out, rfl, rfl⟩⟩
  have hOU0 := hOU
  have eb : IntKind.i64.wrap ((b : Int) + 1) = (b : Int) + 1 := by rw [IntKind.wrap_i64]; omega
  have i1X : Hid (∀ V : World, V.heap[w.heap.size]? = U.heap[w.heap.size]? → V.cell? ⟨w.heap.size, 1, none⟩ = some (.int .i64 a)) := Lib.hid fun V hV => by rw [World.cell?_of_block (a := ⟨w.heap.size, 1, none⟩) hV]; exact i1
  have hN0 : Hid (∀ i k, i < 8 → hm p q i k → k ≠ w.heap.size) := Lib.hid fun i k hi hk => by have := (h0.out.ap.low i k hi hk).2; omega
  have hNl : w.heap.size < U.heap.size := by omega
  clear bA bB bB0 kA kB kC s1 eo h0 hMd hO hOU c2 cg i0 i1 i3 hbk sU hXe hUlt
  generalize (cells (List.replicate (b + 1) 0)).toArray = CC at *
  go_upto_region 1 with fail
  go_region_law (refine step_append_g rfl (.tmp 12) (.tmp 17) rfl rfl eltO hrow.out rfl rfl hsrc.out hbd ?_; intro v8 w8 g1 g2; have hk := key.out v8 w8 g1 g2; obtain ⟨⟨s8, c8', rfl⟩, hc8, hf8, hfin⟩ := hk; clear key g1 g2 hrow hsrc)
  all_goals
    obtain ⟨q2, hT, hbs, hob2⟩ := hfin.out
    have hOx := (hT.free hn0.out hlX).2
    have hn2 := Lib.hid (hT.free hn0.out hlX).1
    have hIx := (hT.free hN0.out hNl).2
    obtain ⟨W6, hW6⟩ : ∃ W, w8.setCell ⟨p, 8, none⟩ (.slice s8 (M.ob.length + 1) c8') = W := ⟨_, rfl⟩
    rw [hW6] at hT hOx hIx ⊢
    clear hW6 hc8 hf8 hfin
    have d8 : W6.cell? ⟨p, 8, none⟩ = some (.slice s8 (M.ob.length + 1) c8') := by rw [← hob2]; exact cell_of hT.is.p0 rfl
    have hM6 := hT.is
    have hT6 := Lib.hid (hMU.out.trans hT)
    obtain ⟨gb, go, cap, c2, cg, hbk⟩ := hM6.find hg hr
    rw [hbs, hgk] at cg
    have j1 := i1X.out W6 hIx
    have hMd := Lib.hid (hT6.out.more (Below.refl _ _).drew)
    have hO : Hid (W6.drew.heap[X]? = some (.cells #[.int .i64 0, .int .i64 0, .bool false] 59 (0, 0))) := Lib.hid (hOx.trans hOU0.out)
    clear hT hOx hIx hM6 hbk i1X hN0 hob2 hT6
    go_upto_region 3 with fail
    go_still_tail 13, (by kernel_rfl)
    change wpList _ _ _ _ _ W6.drew
    obtain ⟨W7, hW7⟩ : ∃ W, W6.drew = W := ⟨_, rfl⟩
    rw [hW7] at hMd hO ⊢
    clear hW7 c2 cg j1 d8
    obtain ⟨s0, s1, hM2⟩ := hMd.out.is.storeK hg hr (a := a) (by omega) ((M.ob.length : Int) + 1)
    rw [hbs, hgk] at s0 s1 hM2
    have hM2 := Lib.hid (hMd.out.trans hM2.out)
    have hO2 : Hid ((W7.setCell ⟨gk, 3 + a, none⟩ (.int .i64 ((M.ob.length : Int) + 1))).heap[X]? = some (.cells #[.int .i64 0, .int .i64 0, .bool false] 59 (0, 0))) := Lib.hid ((Below.heap_setCell _ _ _ _ (fun e => hgX e.symm)).trans hO.out)
    clear hO hMd
    go_upto_region 4 with fail
    obtain ⟨W8, hW8⟩ : ∃ W, W7.setCell ⟨gk, 3 + a, none⟩ (.int .i64 ((M.ob.length : Int) + 1)) = W := ⟨_, rfl⟩
    rw [hW8] at hM2 hO2 ⊢
    clear hW8 s0 s1
    have con := on_any ((M.ob.length : Int) + 1) W8
    go_wp2_with fail
    with_reducible refine Calls.mono con ?_
    rintro e w3 ⟨rfl, hb3⟩
    obtain ⟨t0, t1, t2, f0, f1, f2, kX, hfin⟩ := (hM2.out.more hb3).told (v := (M.ob.length : Int) + 1) (ts := 1) (ft := false) ((hb3.block _ (block_lt hO2.out)).trans hO2.out) hX hn2.out
    clear hM2 hO2 con hb3
    unfold outV
    go_wp2_with fail
    refine bodyPost_ret (results_cell_row (by rfl) _ _ X 59 _ (0, 0) _ rfl kX Tryd.underlying59 rfl (by kernel_rfl)) rfl ?_
    exact ⟨rfl, _, hfin.out⟩
end Md
end Go.Proofs.YtdhkakjiahkjnaaDoor
