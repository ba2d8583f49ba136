/- The document's own Decode. -/
import Derived.Test.YtapkcjbfflgplaaDoorRBad
import Derived.Test.YtapkcjbfflgplaaDoorGw
import Derived.Deep.RegionHeld3
import Derived.Deep.RegionWith
import Derived.Deep.Cut
import Derived.Deep.CutBlock
import Derived.Deep.CutRange
import Derived.Deep.DeepCutAuto
import Derived.RegionTactic
import Derived.StillTailTactics
import Derived.Deep.RegionLaw
namespace Go.Proofs.YtapkcjbfflgplaaDoor
open Go.RowKit Go.Lib Fx Ho Gr
set_option linter.unusedVariables false
namespace Cd
variable {w w' W wr X wb : World} {v fv lv : Value} {fs : List (List Ins)} {zs : List Int} {N q : Nat} {S : Nat → Prop}
theorem exit_fin (hR : X.heap[N]? = some (.cells #[.int .i64 0, .slice none 0 0] 49 (0, 0))) (hbb : Below X.heap.size X wb) (hb : Hid (Below w.heap.size w X)) (hN : w.heap.size ≤ N) (hq : progE zs = .error q) : ((wb.setCell ⟨N, 0, none⟩ (.int .i64 0)).setCell ⟨N, 1, none⟩ (.slice none 0 0)).cell? ⟨N, 0, none⟩ = some (.int .i64 0) ∧ ((wb.setCell ⟨N, 0, none⟩ (.int .i64 0)).setCell ⟨N, 1, none⟩ (.slice none 0 0)).cell? ⟨N, 1, none⟩ = some (.slice none 0 0) ∧ wb.cell? ⟨N, 0, none⟩ = some (.int .i64 0) ∧ wb.cell? ⟨N, 1, none⟩ = some (.slice none 0 0) ∧ wb.frozen? ⟨N, 0, none⟩ = false ∧ wb.frozen? ⟨N, 1, none⟩ = false ∧ DecR w zs (.returned (.tuple #[.agg #[.int .i64 0, .slice none 0 0], .int .i64 6, .int .i64 q])) ((wb.setCell ⟨N, 0, none⟩ (.int .i64 0)).setCell ⟨N, 1, none⟩ (.slice none 0 0)) := by
  have hx := (hbb.block _ (block_lt hR)).trans hR
  have g0 := heap_setCell_same _ N 0 _ _ (.int .i64 0) hx
  have g1 := heap_setCell_same _ N 1 _ _ (.slice none 0 0) g0
  have w0 : Wrote (fun k => k = N) wb (fun k => k = N) (wb.setCell ⟨N, 0, none⟩ (.int .i64 0)) := wrote_setCell (a := ⟨N, 0, none⟩) rfl rfl rfl rfl rfl
  have w1 : Wrote (fun k => k = N) (wb.setCell ⟨N, 0, none⟩ (.int .i64 0)) (fun k => k = N) ((wb.setCell ⟨N, 0, none⟩ (.int .i64 0)).setCell ⟨N, 1, none⟩ (.slice none 0 0)) := wrote_setCell (a := ⟨N, 1, none⟩) rfl rfl rfl rfl rfl
  have hs := hb.out.size
  have hb2 := hb.out.trans (hbb.mono hs)
  have w2 := w0.trans w1
  exact ⟨cell_of g1 rfl, cell_of g1 rfl, cell_of hx rfl, cell_of hx rfl, frozen_of_row _ _ _ _ _ hx, frozen_of_row _ _ _ _ _ hx, .inr ⟨q, hq, rfl, hb2.trans (below_of_w w2 (fun k e => by have e : k = N := e; omega) hb2.size)⟩⟩
theorem first_err (h : ¬ (0 < zs.length ∧ 1 ≤ zs.getD 0 0 ∧ zs.getD 0 0 ≤ 16)) : progE zs = .error 0 := by
  unfold progE num
  rw [if_neg h]; rfl
theorem second_err (h1 : 0 < zs.length ∧ 1 ≤ zs.getD 0 0 ∧ zs.getD 0 0 ≤ 16) (h : ¬ (1 < zs.length ∧ 0 ≤ zs.getD 1 0 ∧ zs.getD 1 0 ≤ 32)) : progE zs = .error 1 := by
  unfold progE num
  rw [if_pos h1]
  simp only [bind_ok]
  rw [if_neg h]; rfl
theorem prog_step_err {G : Int} {a i e q : Nat} {fs : List (List Ins)} (h1 : 0 < zs.length ∧ 1 ≤ zs.getD 0 0 ∧ zs.getD 0 0 ≤ 16) (h2 : 1 < zs.length ∧ 0 ≤ zs.getD 1 0 ∧ zs.getD 1 0 ≤ 32) (hm : zs.getD 0 0 = (a : Int)) (hG : zs.getD 1 0 = G) (hi : i < a) (hf : fsE zs G a i = .ok (fs, q)) (he : fnE zs q G a = .error e) : progE zs = .error e := by
  have hfs : fsE zs G a (i + 1) = .error e := by
    unfold fsE
    rw [hf]
    show (fnE zs q G a).bind _ = _
    rw [he]; rfl
  unfold progE num
  rw [if_pos h1, hm]
  simp only [bind_ok]
  rw [if_pos h2, hG]
  simp only [bind_ok]
  rw [Int.toNat_natCast, fsE_err (by omega) hfs]; rfl
theorem prog_end {G : Int} {a q : Nat} {fs : List (List Ins)} (h1 : 0 < zs.length ∧ 1 ≤ zs.getD 0 0 ∧ zs.getD 0 0 ≤ 16) (h2 : 1 < zs.length ∧ 0 ≤ zs.getD 1 0 ∧ zs.getD 1 0 ≤ 32) (hm : zs.getD 0 0 = (a : Int)) (hG : zs.getD 1 0 = G) (hf : fsE zs G a a = .ok (fs, q)) : progE zs = if q < zs.length then .error q else .ok (G, fs) := by
  unfold progE num
  rw [if_pos h1, hm]
  simp only [bind_ok]
  rw [if_pos h2, hG]
  simp only [bind_ok]
  rw [Int.toNat_natCast, hf]; rfl
theorem fn_err {G : Int} {a q : Nat} (h : ¬ (q < zs.length ∧ 1 ≤ zs.getD q 0 ∧ zs.getD q 0 ≤ 64)) : fnE zs q G a = .error q := by
  unfold fnE num; rw [if_neg h]; rfl
theorem fn_ins_err {G : Int} {a q s j e : Nat} {L : List Ins} (h : fnE zs q G a = insE zs (q + 1) G a s s) (hj : j < s) (hL : insE zs (q + 1) G a s j = .ok L) (he : instE zs (q + 1 + 4 * j) G a s = .error e) : fnE zs q G a = .error e := by
  rw [h]
  refine insE_err (j + 1) s (by omega) ?_
  unfold insE
  rw [hL]
  show (instE zs _ _ _ _).bind _ = _
  rw [he]; rfl
theorem fn_ins {G : Int} {a q s : Nat} (h : q < zs.length ∧ 1 ≤ zs.getD q 0 ∧ zs.getD q 0 ≤ 64) (hs : zs.getD q 0 = (s : Int)) : fnE zs q G a = insE zs (q + 1) G a s s := by
  unfold fnE num; rw [if_pos h, hs]
  show insE zs (q + 1) G a s (Int.toNat s) = _
  rw [Int.toNat_natCast]
/-- The outer loop's state. -/
structure Ro (w wr : World) (zs : List Int) (G : Int) (a n N i : Nat) (fs : List (List Ins)) (hs : List Value) (fv : Value) (q : Nat) : Prop where
  ok : fsE zs G a i = .ok (fs, q)
  le : q ≤ n
  gw : Gw (N + 2) (N + 1) wr fv fs hs
  res : wr.heap[N]? = some (.cells #[.int .i64 0, .slice none 0 0] 49 (0, 0))
  blk : wr.heap[N + 1]? = some (.cells #[.int .i64 G, fv] 49 (0, 0))
  low : Below w.heap.size w wr
/-- The middle loop's state. -/
structure Rm (w wr : World) (zs : List Int) (G : Int) (a n N i : Nat) (fs : List (List Ins)) (hs : List Value) (fv : Value) (q s : Nat) (lv : Value) (j : Nat) (L : List Ins) : Prop where
  ro : Ro w wr zs G a n N i fs hs fv q
  ok : insE zs (q + 1) G a s j = .ok L
  le : q + 1 + 4 * j ≤ n
  row : GRow 4 wr lv L.length (ca L)
  own : ∀ k, lv.ownBlock = some k → N + 2 ≤ k ∧ fv.ownBlock ≠ some k ∧ ∀ t, t < fs.length → (hs.getD t .nilFunc).ownBlock ≠ some k
theorem Rm.below {w1 : World} {G : Int} {a n i q s j : Nat} {hs : List Value} {fv : Value} {L : List Ins} (h : Rm w wr zs G a n N i fs hs fv q s lv j L) (hb : Below wr.heap.size wr w1) : Rm w w1 zs G a n N i fs hs fv q s lv j L :=
  ⟨⟨h.ro.ok, h.ro.le, h.ro.gw.below hb, (hb.block _ (block_lt h.ro.res)).trans h.ro.res, (hb.block _ (block_lt h.ro.blk)).trans h.ro.blk, h.ro.low.trans (hb.mono h.ro.low.size)⟩, h.ok, h.le, h.row.below hb, h.own⟩
/-- The four parts, t of them read. -/
def partC (zs : List Int) (p t : Nat) : Array Value := #[.int .i64 (if 0 < t then zAt zs p 0 else 0), .int .i64 (if 1 < t then zAt zs p 1 else 0), .int .i64 (if 2 < t then zAt zs p 2 else 0), .int .i64 (if 3 < t then zAt zs p 3 else 0)]
theorem partC_set (p : Nat) {t : Nat} (ht : t < 4) : (partC zs p t).setIfInBounds t (.int .i64 (zAt zs p t)) = partC zs p (t + 1) := by
  rcases (show t = 0 ∨ t = 1 ∨ t = 2 ∨ t = 3 by omega) with rfl | rfl | rfl | rfl <;> rfl
theorem partC_x (p : Nat) {t : Nat} (ht : t < 4) : partC zs p (t + 1) = #[.int .i64 (xJ zs p t).1, .int .i64 (xJ zs p t).2.1, .int .i64 (xJ zs p t).2.2.1, .int .i64 (xJ zs p t).2.2.2] := by
  rcases (show t = 0 ∨ t = 1 ∨ t = 2 ∨ t = 3 by omega) with rfl | rfl | rfl | rfl <;> rfl
/-- A block that is not of it. -/
theorem Rm.fresh {G : Int} {a n i q s j : Nat} {hs : List Value} {fv : Value} {L : List Ins} (h : Rm w wr zs G a n N i fs hs fv q s lv j L) : fv.ownBlock ≠ some wr.heap.size ∧ lv.ownBlock ≠ some wr.heap.size ∧ ∀ t, t < fs.length → (hs.getD t .nilFunc).ownBlock ≠ some wr.heap.size :=
  ⟨fun e => Nat.lt_irrefl _ (h.ro.gw.row.lt e), fun e => Nat.lt_irrefl _ (h.row.lt e), fun t ht e => Nat.lt_irrefl _ ((h.ro.gw.ins t ht).lt e)⟩
theorem Rm.put {w1 : World} {G : Int} {a n i q s j PB : Nat} {hs : List Value} {fv : Value} {L : List Ins} (h : Rm w wr zs G a n N i fs hs fv q s lv j L) (hw : Wrote (fun k => k = PB) wr (fun k => k = PB) w1) (hP : N + 2 ≤ PB) (hN : w.heap.size ≤ N) (hb : fv.ownBlock ≠ some PB ∧ lv.ownBlock ≠ some PB ∧ ∀ t, t < fs.length → (hs.getD t .nilFunc).ownBlock ≠ some PB) : Rm w w1 zs G a n N i fs hs fv q s lv j L :=
  ⟨⟨h.ro.ok, h.ro.le, h.ro.gw.beside hw (fun k hk => by have e : k = PB := hk; subst e; exact ⟨hb.1, hb.2.2⟩), (hw.block N (block_lt h.ro.res) (fun e => by have e : N = PB := e; omega)).trans h.ro.res, (hw.block (N + 1) (block_lt h.ro.blk) (fun e => by have e : N + 1 = PB := e; omega)).trans h.ro.blk, h.ro.low.trans (below_of_w hw (fun k e => by have e : k = PB := e; omega) h.ro.low.size)⟩, h.ok, h.le, h.row.wrote hw (fun k hk hh => by have e : k = PB := hh; subst e; exact hb.2.1 hk), h.own⟩
theorem ca_app (A B : List Ins) : ca (A ++ B) = ca A ++ ca B := List.flatMap_append
/-- One instruction more. -/
theorem Rm.next {W5 w8 : World} {G : Int} {a n i q s j : Nat} {hs : List Value} {fv v8 : Value} {L : List Ins} {x : Ins} (h : Rm w wr zs G a n N i fs hs fv q s lv j L) (hN : w.heap.size ≤ N) (hb : Below wr.heap.size wr W5) (hx : instE zs (q + 1 + 4 * j) G a s = .ok x) (hle : q + 1 + 4 * (j + 1) ≤ n) (g1 : GRow 4 w8 v8 (L.length + 1) (ca L ++ c4 x)) (g2 : Wrote (fun k => lv.ownBlock = some k) W5 (fun k => v8.ownBlock = some k) w8) : Rm w w8 zs G a n N i fs hs fv q s v8 (j + 1) (L ++ [x]) := by
  have h5 := h.below hb
  have hsz := hb.size
  have hM := block_lt h.ro.blk
  refine ⟨⟨h.ro.ok, h.ro.le, h5.ro.gw.beside g2 (fun k hk => (h.own k hk).2), (g2.block N (block_lt h5.ro.res) (fun e => by have := (h.own _ e).1; omega)).trans h5.ro.res, (g2.block (N + 1) (block_lt h5.ro.blk) (fun e => by have := (h.own _ e).1; omega)).trans h5.ro.blk, h5.ro.low.trans (below_of_w g2 (fun k e => by have := (h.own _ e).1; omega) h5.ro.low.size)⟩, ?_, hle, ?_, fun k hk => ?_⟩
  · unfold insE
    rw [h.ok]
    show (instE zs (q + 1 + 4 * j) G a s).bind _ = _
    rw [hx]; rfl
  · rw [List.length_append, ca_app]
    have e : ca [x] = c4 x := by unfold ca; simp
    rw [e]; exact g1
  · rcases g2.home k hk with e | e
    · exact h.own k e
    · refine ⟨by omega, fun e2 => ?_, fun t ht e2 => ?_⟩
      · have := h.ro.gw.row.lt e2; omega
      · have := (h.ro.gw.ins t ht).lt e2; omega
theorem Rm.done {w1 w8 : World} {G : Int} {a n i q s : Nat} {hs : List Value} {fv v8 : Value} {L : List Ins} (h : Rm w wr zs G a n N i fs hs fv q s lv s L) (hfn : fnE zs q G a = insE zs (q + 1) G a s s) (hN : w.heap.size ≤ N) (hb : Below wr.heap.size wr w1) (hg : GRow 1 w8 v8 (fs.length + 1) (hs ++ [lv])) (hw : Wrote (fun k => fv.ownBlock = some k) w1 (fun k => v8.ownBlock = some k) w8) : w8.cell? ⟨N + 1, 1, none⟩ = some fv ∧ w8.frozen? ⟨N + 1, 1, none⟩ = false ∧ Hid (Ro w (w8.setCell ⟨N + 1, 1, none⟩ v8) zs G a n N (i + 1) (fs ++ [L]) (hs ++ [lv]) v8 (q + 1 + 4 * s)) := by
  have hM := block_lt h.ro.blk
  have hR := block_lt h.ro.res
  have hsz := hb.size
  have hll := insE_len _ _ h.ok
  have hblk1 := (hb.block _ hM).trans h.ro.blk
  have hres1 := (hb.block _ hR).trans h.ro.res
  have hfvs := h.ro.gw.fvs
  have hblk8 := (hw.block _ (block_lt hblk1) (fun e => (hfvs _ e).1 rfl)).trans hblk1
  have hres8 := (hw.block _ (block_lt hres1) (fun e => by have := (hfvs _ e).2; omega)).trans hres1
  have hmore := (h.ro.gw.below hb).more (h.row.below hb) (fun k hk => by have := h.own k hk; exact ⟨by omega, this.1, this.2.1⟩) (by omega) (by omega) hg hw
  have w2 : Wrote (fun k => k = N + 1) w8 (fun k => k = N + 1) (w8.setCell ⟨N + 1, 1, none⟩ v8) := wrote_setCell (a := ⟨N + 1, 1, none⟩) rfl rfl rfl rfl rfl
  have b1 := h.ro.low.trans (hb.mono h.ro.low.size)
  have s1 := b1.size
  have b8 : Below w.heap.size w w8 := b1.trans ⟨hw.os, hw.tape, hw.output, hw.size, fun k hk => hw.block k (by omega) (fun e => by have := (hfvs k e).2; omega)⟩
  have s8 := b8.size
  refine ⟨cell_of hblk8 rfl, frozen_of_row _ _ _ _ _ hblk8, Lib.hid ⟨?_, h.le, hmore.wrote w2 (fun k e => .inl e), (w2.block N (block_lt hres8) (fun e => by have e : N = N + 1 := e; omega)).trans hres8, by rw [heap_setCell_same _ (N + 1) 1 _ _ _ hblk8]; rfl, b8.trans (below_of_w w2 (fun k e => by have e : k = N + 1 := e; omega) s8)⟩⟩
  unfold fsE
  rw [h.ro.ok]
  show (fnE zs q G a).bind _ = _
  rw [hfn, h.ok]
  show Except.ok (fs ++ [L], q + 1 + 4 * L.length) = _
  rw [hll]
set_option maxRecDepth 100000 in
set_option maxHeartbeats 4000000 in
theorem refdecode_any (h : BRow w S v zs) (hz : zs.length ≤ 100000) : Calls Tryd.prog 38 #[v] w (DecR w zs) := by
  obtain ⟨sp, cap, rfl, -, hby⟩ := h
  have hby : Hid (∀ i, i < zs.length → ∃ b off, sp = some ⟨b, off, none⟩ ∧ (∀ V, Below w.heap.size w V → V.cell? ⟨b, off + i, none⟩ = some (.int .u8 (zs.getD i 0))) ∧ 0 ≤ zs.getD i 0 ∧ zs.getD i 0 < 256) := Lib.hid fun i hi => by
    obtain ⟨b, off, e, _, _, c0, c1⟩ := hby i hi
    exact ⟨b, off, e, fun V hV => cell_then hV c0, c1⟩
  obtain ⟨n, hn⟩ : ∃ n, zs.length = n := ⟨_, rfl⟩
  rw [hn] at hby hz ⊢
  have hb1 := below_alloc (Below.refl w.heap.size w) (.cells #[.int .i64 0, .slice none 0 0] 49)
  have k1 := heap_alloc_new w (.cells #[.int .i64 0, .slice none 0 0] 49)
  have k2 := heap_alloc_new (w.alloc (.cells #[.int .i64 0, .slice none 0 0] 49)) (.cells #[.int .i64 0, .slice none 0 0] 49)
  rw [show (w.alloc (.cells #[.int .i64 0, .slice none 0 0] 49)).heap.size = w.heap.size + 1 by show (w.heap.push _).size = _; rw [Array.size_push]] at k2
  have k1 := ((below_alloc (Below.refl (w.alloc (.cells #[.int .i64 0, .slice none 0 0] 49)).heap.size (w.alloc (.cells #[.int .i64 0, .slice none 0 0] 49))) (.cells #[.int .i64 0, .slice none 0 0] 49)).block _ (block_lt k1)).trans k1
  have hbU := Lib.hid (below_alloc hb1 (.cells #[.int .i64 0, .slice none 0 0] 49))
  clear hb1
  obtain ⟨N, hN⟩ : ∃ N, w.heap.size = N := ⟨_, rfl⟩
  rw [hN] at k1 k2
  go_enter Tryd.func38, Tryd.ntmps38
  go_upto_region 2 with fail
  obtain ⟨U, hU⟩ : ∃ U, (w.alloc (.cells #[.int .i64 0, .slice none 0 0] 49)).alloc (.cells #[.int .i64 0, .slice none 0 0] 49) = U := ⟨_, rfl⟩
  rw [hU] at hbU k1 k2 ⊢
  clear hU
  by_cases h1 : n < 1
  · have e1 : (n : Int) < 1 := by omega
    have e2 : decide ((n : Int) < 1) = true := decide_eq_true e1
    have hq := first_err (zs := zs) (fun g => by omega)
    have cb := bad_any (0 : Nat) U
    replace hq := Lib.hid (show progE zs = .error 0 from hq)
    clear k2 hby hz
    go_wp2_with fail
    with_reducible refine Calls.mono cb ?_
    rintro e wb ⟨rfl, hbb⟩
    obtain ⟨kk0, kk1, r0, r1, f0, f1, hfin⟩ := exit_fin k1 hbb hbU (by omega) hq.out
    replace hfin := Lib.hid hfin
    clear cb hbb
    go_wp2_with fail
    refine bodyPost_ret (v := .tuple #[.agg #[.int .i64 0, .slice none 0 0], .int .i64 6, .int .i64 (0 : Nat)]) (by simp [results, Tryd.results38, go_sem, kk0, kk1]) rfl hfin.out
  have e1 : ¬ (n : Int) < 1 := by omega
  have e2 : decide ((n : Int) < 1) = false := decide_eq_false e1
  obtain ⟨b, off, rfl, hc0, z0, z1⟩ := hby.out 0 (by omega)
  have d0 := hc0 U hbU.out
  rw [Nat.add_zero] at d0
  clear hc0
  obtain ⟨m, hm⟩ : ∃ m, zs.getD 0 0 = m := ⟨_, rfl⟩
  rw [hm] at d0 z0 z1
  have n0 : (0 : Int) < (n : Int) := by omega
  have n0' : 0 < n := by omega
  by_cases h2 : m < 1
  · have e3 : decide (m < 1) = true := decide_eq_true h2
    have hq := first_err (zs := zs) (fun g => by omega)
    have cb := bad_any (0 : Nat) U
    replace hq := Lib.hid (show progE zs = .error 0 from hq)
    clear k2 hby
    go_wp2_with fail
    with_reducible refine Calls.mono cb ?_
    rintro e wb ⟨rfl, hbb⟩
    obtain ⟨kk0, kk1, r0, r1, f0, f1, hfin⟩ := exit_fin k1 hbb hbU (by omega) hq.out
    replace hfin := Lib.hid hfin
    clear cb hbb
    go_wp2_with fail
    refine bodyPost_ret (v := .tuple #[.agg #[.int .i64 0, .slice none 0 0], .int .i64 6, .int .i64 (0 : Nat)]) (by simp [results, Tryd.results38, go_sem, kk0, kk1]) rfl hfin.out
  have e3 : decide (m < 1) = false := decide_eq_false h2
  by_cases h3 : 16 < m
  · have e4 : decide (16 < m) = true := decide_eq_true h3
    have hq := first_err (zs := zs) (fun g => by omega)
    have cb := bad_any (0 : Nat) U
    replace hq := Lib.hid (show progE zs = .error 0 from hq)
    clear k2 hby
    go_wp2_with fail
    with_reducible refine Calls.mono cb ?_
    rintro e wb ⟨rfl, hbb⟩
    obtain ⟨kk0, kk1, r0, r1, f0, f1, hfin⟩ := exit_fin k1 hbb hbU (by omega) hq.out
    replace hfin := Lib.hid hfin
    clear cb hbb
    go_wp2_with fail
    refine bodyPost_ret (v := .tuple #[.agg #[.int .i64 0, .slice none 0 0], .int .i64 6, .int .i64 (0 : Nat)]) (by simp [results, Tryd.results38, go_sem, kk0, kk1]) rfl hfin.out
  have e4 : decide (16 < m) = false := decide_eq_false h3
  have hfst : 0 < zs.length ∧ 1 ≤ zs.getD 0 0 ∧ zs.getD 0 0 ≤ 16 := by omega
  by_cases h4 : n < 2
  · have e5 : (n : Int) < 2 := by omega
    have e6 : decide ((n : Int) < 2) = true := decide_eq_true e5
    have hq := second_err hfst (fun g => by omega)
    have cb := bad_any (1 : Nat) U
    replace hq := Lib.hid (show progE zs = .error 1 from hq)
    clear k2 hby
    go_wp2_with fail
    with_reducible refine Calls.mono cb ?_
    rintro e wb ⟨rfl, hbb⟩
    obtain ⟨kk0, kk1, r0, r1, f0, f1, hfin⟩ := exit_fin k1 hbb hbU (by omega) hq.out
    replace hfin := Lib.hid hfin
    clear cb hbb
    go_wp2_with fail
    refine bodyPost_ret (v := .tuple #[.agg #[.int .i64 0, .slice none 0 0], .int .i64 6, .int .i64 (1 : Nat)]) (by simp [results, Tryd.results38, go_sem, kk0, kk1]) rfl hfin.out
  have e5 : ¬ (n : Int) < 2 := by omega
  have e6 : decide ((n : Int) < 2) = false := decide_eq_false e5
  obtain ⟨b', off', eb, hc1, y0, y1⟩ := hby.out 1 (by omega)
  cases eb
  have d1 := hc1 U hbU.out
  clear hc1
  obtain ⟨G, hG⟩ : ∃ G, zs.getD 1 0 = G := ⟨_, rfl⟩
  rw [hG] at d1 y0 y1
  have n2 : (1 : Int) < (n : Int) := by omega
  have n2' : 1 < n := by omega
  have u0 : U.cell? ⟨N + 1, 0, none⟩ = some (.int .i64 0) := cell_of k2 rfl
  have fz0 : U.frozen? ⟨N + 1, 0, none⟩ = false := frozen_of_row _ _ _ _ _ k2
  have k2' := heap_setCell_same _ (N + 1) 0 _ _ (.int .i64 G) k2
  have hw1 : Wrote (fun k => k = N + 1) U (fun k => k = N + 1) (U.setCell ⟨N + 1, 0, none⟩ (.int .i64 G)) := wrote_setCell (a := ⟨N + 1, 0, none⟩) rfl rfl rfl rfl rfl
  have k1' := (hw1.block N (block_lt k1) (fun e => by have e : N = N + 1 := e; omega)).trans k1
  have hbU2 := Lib.hid (hbU.out.trans (below_of_w hw1 (fun k e => by have e : k = N + 1 := e; omega) hbU.out.size))
  have u2 : (U.setCell ⟨N + 1, 0, none⟩ (.int .i64 G)).cell? ⟨N + 1, 0, none⟩ = some (.int .i64 G) := cell_of k2' rfl
  clear hw1
  go_upto_region 10 with fail
  obtain ⟨U2, hU2⟩ : ∃ U2, U.setCell ⟨N + 1, 0, none⟩ (.int .i64 G) = U2 := ⟨_, rfl⟩
  rw [hU2] at k2' k1' hbU2 u2 ⊢
  clear hU2 u0 fz0 k1 k2 d0 d1 hbU
  by_cases h5 : 32 < G
  · have e7 : decide (32 < G) = true := decide_eq_true h5
    have hq := second_err hfst (fun g => by omega)
    have cb := bad_any (1 : Nat) U2
    replace hq := Lib.hid (show progE zs = .error 1 from hq)
    clear k2' hby
    go_wp2_with fail
    with_reducible refine Calls.mono cb ?_
    rintro e wb ⟨rfl, hbb⟩
    obtain ⟨kk0, kk1, r0, r1, f0, f1, hfin⟩ := exit_fin k1' hbb hbU2 (by omega) hq.out
    replace hfin := Lib.hid hfin
    clear cb hbb
    go_wp2_with fail
    refine bodyPost_ret (v := .tuple #[.agg #[.int .i64 0, .slice none 0 0], .int .i64 6, .int .i64 (1 : Nat)]) (by simp [results, Tryd.results38, go_sem, kk0, kk1]) rfl hfin.out
  have e7 : decide (32 < G) = false := decide_eq_false h5
  have hsnd : 1 < zs.length ∧ 0 ≤ zs.getD 1 0 ∧ zs.getD 1 0 ≤ 32 := by omega
  obtain ⟨a, rfl⟩ : ∃ a : Nat, m = (a : Int) := ⟨m.toNat, by omega⟩
  have hst : Hid (Ro w U2 zs G a n N 0 [] [] (.slice none 0 0) 2) := Lib.hid ⟨rfl, by omega, ⟨rfl, grow_nil _ _, fun i hi => by simp at hi, fun i hi => by simp at hi, fun k hk => by cases hk⟩, k1', by simpa using k2', hbU2.out⟩
  clear k2' k1' hbU2
  go_wp2_with fail
  clear u2
  go_loopw [7, 8, 9, 10, 11, 12, 13, 14, 15] (fun u7 u8 u9 u10 u11 u12 u13 u14 u15 wr => ∃ i q : Nat, u8 = .int .i64 i ∧ u7 = .int .i64 q ∧ i ≤ a ∧ q ≤ n ∧ Hid (∃ fs hs fv, Ro w wr zs G a n N i fs hs fv q)) (fun _ y _ _ _ _ _ _ _ _ => (a - (RowKit.intOf y).toNat))
  case atStart => exact ⟨0, 2, rfl, rfl, by omega, by omega, Lib.hid ⟨_, _, _, hst.out⟩⟩
  case round =>
    clear hst
    obtain ⟨i, q, rfl, rfl, ia, qn, hR⟩ := hrel
    obtain ⟨fs, hs, fv, hR⟩ := hR.out
    have i0 : (0 : Int) ≤ (i : Int) := by omega
    have q0 : (0 : Int) ≤ (q : Int) := by omega
    have hres := hR.res
    have hlow := Lib.hid hR.low
    by_cases hi : i < a
    · have i1 : (i : Int) < (a : Int) := by omega
      by_cases hqn : n ≤ q
      · have g1 : (n : Int) ≤ (q : Int) := by omega
        have g2 : decide ((n : Int) ≤ (q : Int)) = true := decide_eq_true g1
        obtain rfl : q = n := by omega
        have hq := prog_step_err hfst hsnd hm hG hi hR.ok (fn_err (fun g => by omega))
        have cb := bad_any q wr
        replace hq := Lib.hid (show progE zs = .error q from hq)
        clear hR hby
        go_wp2_with fail
        with_reducible refine Calls.mono cb ?_
        rintro e wb ⟨rfl, hbb⟩
        obtain ⟨kk0, kk1, r0, r1, f0, f1, hfin⟩ := exit_fin hres hbb hlow (by omega) hq.out
        replace hfin := Lib.hid hfin
        clear cb hbb
        go_wp2_with fail
        refine bodyPost_ret (v := .tuple #[.agg #[.int .i64 0, .slice none 0 0], .int .i64 6, .int .i64 q]) (by simp [results, Tryd.results38, go_sem, kk0, kk1]) rfl hfin.out
      have g1 : ¬ (n : Int) ≤ (q : Int) := by omega
      have g2 : decide ((n : Int) ≤ (q : Int)) = false := decide_eq_false g1
      have q1 : (q : Int) < (n : Int) := by omega
      have q1' : q < n := by omega
      obtain ⟨b', off', eb, hcq, x0, x1⟩ := hby.out q (by omega)
      cases eb
      have d0 := hcq wr hlow.out
      clear hcq
      obtain ⟨sz, hsz⟩ : ∃ sz, zs.getD q 0 = sz := ⟨_, rfl⟩
      rw [hsz] at d0 x0 x1
      by_cases h6 : sz < 1
      · have g3 : decide (sz < 1) = true := decide_eq_true h6
        have hq := prog_step_err hfst hsnd hm hG hi hR.ok (fn_err (fun g => by omega))
        have cb := bad_any q wr
        replace hq := Lib.hid (show progE zs = .error q from hq)
        clear hR hby
        go_wp2_with fail
        with_reducible refine Calls.mono cb ?_
        rintro e wb ⟨rfl, hbb⟩
        obtain ⟨kk0, kk1, r0, r1, f0, f1, hfin⟩ := exit_fin hres hbb hlow (by omega) hq.out
        replace hfin := Lib.hid hfin
        clear cb hbb
        go_wp2_with fail
        refine bodyPost_ret (v := .tuple #[.agg #[.int .i64 0, .slice none 0 0], .int .i64 6, .int .i64 q]) (by simp [results, Tryd.results38, go_sem, kk0, kk1]) rfl hfin.out
      have g3 : decide (sz < 1) = false := decide_eq_false h6
      by_cases h7 : 64 < sz
      · have g4 : decide (64 < sz) = true := decide_eq_true h7
        have hq := prog_step_err hfst hsnd hm hG hi hR.ok (fn_err (fun g => by omega))
        have cb := bad_any q wr
        replace hq := Lib.hid (show progE zs = .error q from hq)
        clear hR hby
        go_wp2_with fail
        with_reducible refine Calls.mono cb ?_
        rintro e wb ⟨rfl, hbb⟩
        obtain ⟨kk0, kk1, r0, r1, f0, f1, hfin⟩ := exit_fin hres hbb hlow (by omega) hq.out
        replace hfin := Lib.hid hfin
        clear cb hbb
        go_wp2_with fail
        refine bodyPost_ret (v := .tuple #[.agg #[.int .i64 0, .slice none 0 0], .int .i64 6, .int .i64 q]) (by simp [results, Tryd.results38, go_sem, kk0, kk1]) rfl hfin.out
      have g4 : decide (64 < sz) = false := decide_eq_false h7
      obtain ⟨s, rfl⟩ : ∃ s : Nat, sz = (s : Int) := ⟨sz.toNat, by omega⟩
      have hfn := Lib.hid (fn_ins (zs := zs) (G := G) (a := a) (q := q) (s := s) (by omega) hsz)
      have wq : IntKind.i64.wrap ((q : Int) + 1) = ((q + 1 : Nat) : Int) := by rw [IntKind.wrap_i64]; omega
      have hms : Hid (Rm w wr zs G a n N i fs hs fv q s (.slice none 0 0) 0 []) := Lib.hid ⟨hR, rfl, by omega, grow_nil _ _, fun k hk => by cases hk⟩
      go_wp2_with fail
      clear d0 hres hlow hR
      go_loopw [7, 10, 11, 12, 13, 14, 15] (fun u7 u10 u11 u12 u13 u14 u15 wx => ∃ j : Nat, u11 = .int .i64 j ∧ u7 = .int .i64 (q + 1 + 4 * j : Nat) ∧ j ≤ s ∧ Hid (∃ L, Rm w wx zs G a n N i fs hs fv q s u10 j L)) (fun _ _ y _ _ _ _ _ => (s - (RowKit.intOf y).toNat))
      case atStart => exact ⟨0, rfl, by simp, by omega, Lib.hid ⟨_, hms.out⟩⟩
      case round =>
        clear hms
        obtain ⟨j, rfl, rfl, js, hM⟩ := hrel
        obtain ⟨L, hM⟩ := hM.out
        have j0 : (0 : Int) ≤ (j : Int) := by omega
        by_cases hj : j < s
        · have j1 : (j : Int) < (s : Int) := by omega
          obtain ⟨p, hp⟩ : ∃ p, q + 1 + 4 * j = p := ⟨_, rfl⟩
          have hpn := hM.le
          rw [hp] at hpn ⊢
          have hbA := below_alloc (Below.refl wr.heap.size wr) (.cells #[.int .i64 0, .int .i64 0, .int .i64 0, .int .i64 0] 3)
          have hPB := heap_alloc_new wr (.cells #[.int .i64 0, .int .i64 0, .int .i64 0, .int .i64 0] 3)
          have hlow2 : N + 2 ≤ wr.heap.size := by have := block_lt hM.ro.blk; omega
          have hst3 : Hid (∃ lo, N + 2 ≤ lo ∧ lo ≤ wr.heap.size ∧ Rm w (wr.alloc (.cells #[.int .i64 0, .int .i64 0, .int .i64 0, .int .i64 0] 3)) zs G a n N i fs hs fv q s u10 j L ∧ (wr.alloc (.cells #[.int .i64 0, .int .i64 0, .int .i64 0, .int .i64 0] 3)).heap[wr.heap.size]? = some (.cells (partC zs p 0) 3 (0, 0))) := Lib.hid ⟨N + 2, Nat.le_refl _, hlow2, hM.below hbA, hPB⟩
          have hNB := Lib.hid hM.fresh
          replace hp := Lib.hid hp
          clear hM hbA hPB
          obtain ⟨PB, hPBe⟩ : ∃ PB, wr.heap.size = PB := ⟨_, rfl⟩
          rw [hPBe] at hst3 hlow2 hNB
          go_wp2_with fail
          obtain ⟨wp, hwp⟩ : ∃ wp, wr.alloc (.cells #[.int .i64 0, .int .i64 0, .int .i64 0, .int .i64 0] 3) = wp := ⟨_, rfl⟩
          rw [hwp] at hst3 ⊢
          clear hwp hPBe
          go_loopw [13, 14, 15] (fun u13 u14 u15 wx => ∃ t : Nat, u13 = .int .i64 t ∧ t ≤ 4 ∧ p + t ≤ n ∧ Hid (∀ t', t' < t → p + t' < zs.length ∧ fitJ G a s zs p t') ∧ Hid (Rm w wx zs G a n N i fs hs fv q s u10 j L ∧ wx.heap[PB]? = some (.cells (partC zs p t) 3 (0, 0)))) (fun y _ _ _ => (4 - (RowKit.intOf y).toNat))
          case atStart => exact ⟨0, rfl, by omega, by omega, Lib.hid (fun t' h => by omega), Lib.hid (by obtain ⟨_, _, _, h1, h2⟩ := hst3.out; exact ⟨h1, h2⟩)⟩
          case round =>
            clear hst3
            obtain ⟨t, rfl, t4, ptn, hfit, hX⟩ := hrel
            obtain ⟨hXM, hXP⟩ := hX.out
            clear hX
            have t0 : (0 : Int) ≤ (t : Int) := by omega
            have p0 : (0 : Int) ≤ (p : Int) := by omega
            have hres := hXM.ro.res
            have hlow := Lib.hid hXM.ro.low
            by_cases ht : t < 4
            · have t1 : (t : Int) < 4 := by omega
              by_cases hpt : n ≤ p + t
              · have g1 : (n : Int) ≤ (p : Int) + (t : Int) := by omega
                have g2 : decide ((n : Int) ≤ (p : Int) + (t : Int)) = true := decide_eq_true g1
                have hq := prog_step_err hfst hsnd hm hG hi hXM.ro.ok (fn_ins_err hfn.out hj hXM.ok (by rw [hp.out]; exact inst_stop ht hfit.out (fun g => by omega)))
                rw [show p + t = n by omega] at hq
                have cb := bad_any n wr
                replace hq := Lib.hid (show progE zs = .error n from hq)
                clear hXM hby hXP
                go_wp2_with fail
                with_reducible refine Calls.mono cb ?_
                rintro e wb ⟨rfl, hbb⟩
                obtain ⟨kk0, kk1, r0, r1, f0, f1, hfin⟩ := exit_fin hres hbb hlow (by omega) hq.out
                replace hfin := Lib.hid hfin
                clear cb hbb
                go_wp2_with fail
                refine bodyPost_ret (v := .tuple #[.agg #[.int .i64 0, .slice none 0 0], .int .i64 6, .int .i64 n]) (by simp [results, Tryd.results38, go_sem, kk0, kk1]) rfl hfin.out
              have g1 : ¬ (n : Int) ≤ (p : Int) + (t : Int) := by omega
              have g2 : decide ((n : Int) ≤ (p : Int) + (t : Int)) = false := decide_eq_false g1
              have q2 : (p : Int) + (t : Int) < (n : Int) := by omega
              have q2' : p + t < n := by omega
              have q20 : (0 : Int) ≤ (p : Int) + (t : Int) := by omega
              obtain ⟨b', off', eb, hcq, x0, x1⟩ := hby.out (p + t) q2'
              cases eb
              have d0 := hcq wr hlow.out
              clear hcq
              have hset := partC_set (zs := zs) p ht
              have hxc := partC_x (zs := zs) p ht
              unfold zAt at hset
              obtain ⟨z, hz⟩ : ∃ z, zs.getD (p + t) 0 = z := ⟨_, rfl⟩
              rw [hz] at d0 x0 x1 hset
              have tc : wr.cell? ⟨PB, t, none⟩ = some (.int .i64 0) := cell_of hXP (by rcases (show t = 0 ∨ t = 1 ∨ t = 2 ∨ t = 3 by omega) with rfl | rfl | rfl | rfl <;> rfl)
              have tf : wr.frozen? ⟨PB, t, none⟩ = false := frozen_of_row _ _ _ _ _ hXP
              have hw1 : Wrote (fun k => k = PB) wr (fun k => k = PB) (wr.setCell ⟨PB, t, none⟩ (.int .i64 z)) := wrote_setCell (a := ⟨PB, t, none⟩) rfl rfl rfl rfl rfl
              have hXM2 := hXM.put hw1 hlow2 (by omega) hNB.out
              have hXP2 := heap_setCell_same _ PB t _ _ (.int .i64 z) hXP
              rw [hset] at hXP2
              have hX2 : Hid (Rm w (wr.setCell ⟨PB, t, none⟩ (.int .i64 z)) zs G a n N i fs hs fv q s u10 j L ∧ (wr.setCell ⟨PB, t, none⟩ (.int .i64 z)).heap[PB]? = some (.cells (partC zs p (t + 1)) 3 (0, 0))) := Lib.hid ⟨hXM2, hXP2⟩
              rw [hxc] at hXP2
              obtain ⟨⟨op, ia, ib, ic⟩, hx⟩ : ∃ x, xJ zs p t = x := ⟨_, rfl⟩
              rw [hx] at hXP2
              have k0 : (wr.setCell ⟨PB, t, none⟩ (.int .i64 z)).cell? ⟨PB, 0, none⟩ = some (.int .i64 op) := cell_of hXP2 rfl
              have k1 : (wr.setCell ⟨PB, t, none⟩ (.int .i64 z)).cell? ⟨PB, 1, none⟩ = some (.int .i64 ia) := cell_of hXP2 rfl
              have k2 : (wr.setCell ⟨PB, t, none⟩ (.int .i64 z)).cell? ⟨PB, 2, none⟩ = some (.int .i64 ib) := cell_of hXP2 rfl
              have k3 : (wr.setCell ⟨PB, t, none⟩ (.int .i64 z)).cell? ⟨PB, 3, none⟩ = some (.int .i64 ic) := cell_of hXP2 rfl
              have hPBl := block_lt hXP2
              replace hx := Lib.hid hx
              clear hXM hXP hXM2 hXP2 hset hxc hw1 hres hlow hz
              go_upto_region 33 with fail
              obtain ⟨W1, hW1⟩ : ∃ W1, wr.setCell ⟨PB, t, none⟩ (.int .i64 z) = W1 := ⟨_, rfl⟩
              rw [hW1] at hX2 k0 k1 k2 k3 hPBl ⊢
              clear hW1 tc tf d0
              have hbA := below_alloc (Below.refl W1.heap.size W1) (.cells #[.int .i64 op, .int .i64 ia, .int .i64 ib, .int .i64 ic] 29)
              have kA := heap_alloc_new W1 (.cells #[.int .i64 op, .int .i64 ia, .int .i64 ib, .int .i64 ic] 29)
              have hUF : Hid (Below W1.heap.size W1 ((W1.alloc (.cells #[.int .i64 op, .int .i64 ia, .int .i64 ib, .int .i64 ic] 29)).drew) ∧ ((W1.alloc (.cells #[.int .i64 op, .int .i64 ia, .int .i64 ib, .int .i64 ic] 29)).drew).heap[W1.heap.size]? = some (.cells #[.int .i64 op, .int .i64 ia, .int .i64 ib, .int .i64 ic] 29 (0, 0))) := Lib.hid ⟨hbA.drew, kA⟩
              clear hbA kA
              go_region_held3 (fun W' => W'.cell? ⟨PB, 0, none⟩ = some (.int .i64 op) ∧ W'.cell? ⟨PB, 1, none⟩ = some (.int .i64 ia) ∧ W'.cell? ⟨PB, 2, none⟩ = some (.int .i64 ib) ∧ W'.cell? ⟨PB, 3, none⟩ = some (.int .i64 ic)) (first | exact ⟨k0, k1, k2, k3⟩ | go_keep) (fail)
              clear k0 k1 k2 k3 hPBl
              obtain ⟨U, hU⟩ : ∃ U, (W1.alloc (.cells #[.int .i64 op, .int .i64 ia, .int .i64 ib, .int .i64 ic] 29)).drew = U := ⟨_, rfl⟩
              rw [hU] at hUF ⊢
              clear hU
              obtain ⟨hbU', kU⟩ := hUF.out
              have hMU := hX2.out.1.below hbU'
              have hres := hMU.ro.res
              have hlow := Lib.hid hMU.ro.low
              have gG : U.cell? ⟨N + 1, 0, none⟩ = some (.int .i64 G) := cell_of hMU.ro.blk rfl
              have v0 := cell_of kU (j := 0) rfl
              have v1 := cell_of kU (j := 1) rfl
              have v2 := cell_of kU (j := 2) rfl
              have v3 := cell_of kU (j := 3) rfl
              have hPU : Hid (U.heap[PB]? = some (.cells (partC zs p (t + 1)) 3 (0, 0))) := Lib.hid ((hbU'.block _ (block_lt hX2.out.2)).trans hX2.out.2)
              replace hMU := Lib.hid hMU
              have cw := wrong_any (G := G) (nf := a) (len := s) op ia ib ic U
              have hwj := wrong_j (G := G) (nf := a) (len := s) (zs := zs) (p := p) ht (fun t' ht' => (hfit.out t' ht').2)
              rw [hx.out] at hwj
              obtain ⟨r, hr⟩ : ∃ r, wrongN G a s (op, ia, ib, ic) = r := ⟨_, rfl⟩
              rw [hr] at cw hwj
              replace hwj := Lib.hid hwj
              clear hr hx hX2 hUF hbU' kU
              obtain ⟨J, hJ⟩ : ∃ J, W1.heap.size = J := ⟨_, rfl⟩
              rw [hJ] at v0 v1 v2 v3 ⊢
              clear hJ
              go_wp2_with fail
              with_reducible refine Calls.mono cw ?_
              rintro e wr ⟨rfl, hbr⟩
              have hMr := Lib.hid (hMU.out.below hbr)
              have hPr : Hid (wr.heap[PB]? = some (.cells (partC zs p (t + 1)) 3 (0, 0))) := Lib.hid ((hbr.block _ (block_lt hPU.out)).trans hPU.out)
              have hres := hMr.out.ro.res
              have hlow := Lib.hid hMr.out.ro.low
              clear cw hMU hPU gG v0 v1 v2 v3 hbr
              by_cases hf : fitJ G a s zs p t
              · have hwn := hwj.out.1 hf
                have hfit2 : Hid (∀ t', t' < t + 1 → p + t' < zs.length ∧ fitJ G a s zs p t') := Lib.hid fun t' ht' => by
                  rcases Nat.lt_or_ge t' t with g | g
                  · exact hfit.out t' g
                  · rw [show t' = t by omega]; exact ⟨by omega, hf⟩
                clear hfit hwj hf
                have wt : IntKind.i64.wrap ((t : Int) + 1) = (t : Int) + 1 := by rw [IntKind.wrap_i64]; omega
                by_cases hr0 : 0 ≤ r
                · have f1 : decide (0 ≤ r) = true := decide_eq_true hr0
                  have f2 : ¬ r ≤ (t : Int) := fun g => hwn ⟨hr0, g⟩
                  have f3 : decide (r ≤ (t : Int)) = false := decide_eq_false f2
                  go_wp2_with fail
                  go_roundw
                  case rel => exact ⟨t + 1, by go_num, by omega, by omega, hfit2, Lib.hid ⟨hMr.out, hPr.out⟩⟩
                  case measure => simp [RowKit.intOf]; omega
                · have f1 : decide (0 ≤ r) = false := decide_eq_false hr0
                  go_wp2_with fail
                  go_roundw
                  case rel => exact ⟨t + 1, by go_num, by omega, by omega, hfit2, Lib.hid ⟨hMr.out, hPr.out⟩⟩
                  case measure => simp [RowKit.intOf]; omega
              · obtain rfl : r = (t : Int) := hwj.out.2 hf
                have hq := prog_step_err hfst hsnd hm hG hi hMr.out.ro.ok (fn_ins_err hfn.out hj hMr.out.ok (by rw [hp.out]; exact inst_stop ht hfit.out (fun g => hf g.2)))
                have f1 : decide (0 ≤ (t : Int)) = true := decide_eq_true t0
                have f2 : (t : Int) ≤ (t : Int) := by omega
                have f3 : decide ((t : Int) ≤ (t : Int)) = true := decide_eq_true f2
                have cb := bad_any ((p : Int) + (t : Int)) wr
                replace hq := Lib.hid (show progE zs = .error (p + t) from hq)
                clear hby hfit hwj hMr hPr hf
                go_wp2_with fail
                with_reducible refine Calls.mono cb ?_
                rintro e wb ⟨rfl, hbb⟩
                obtain ⟨kk0, kk1, r0, r1, f0, f1, hfin⟩ := exit_fin hres hbb hlow (by omega) hq.out
                rw [Int.natCast_add] at hfin
                replace hfin := Lib.hid hfin
                clear cb hbb
                go_wp2_with fail
                refine bodyPost_ret (v := .tuple #[.agg #[.int .i64 0, .slice none 0 0], .int .i64 6, .int .i64 ((p : Int) + (t : Int))]) (by simp [results, Tryd.results38, go_sem, kk0, kk1]) rfl hfin.out
            · obtain rfl : t = 4 := by omega
              have hins := inst_all (fun t' ht' => hfit.out t' ht')
              have hxc := partC_x (zs := zs) p (show 3 < 4 by omega)
              have hle4 : p + 4 ≤ n := by omega
              have hll := insE_len _ _ hXM.ok
              obtain ⟨⟨op, ia, ib, ic⟩, hx⟩ : ∃ x, xJ zs p 3 = x := ⟨_, rfl⟩
              rw [hx] at hxc hins
              have hXP2 := hXP
              rw [show (4 : Nat) = 3 + 1 from rfl, hxc] at hXP2
              have k0 : wr.cell? ⟨PB, 0, none⟩ = some (.int .i64 op) := cell_of hXP2 rfl
              have k1 : wr.cell? ⟨PB, 1, none⟩ = some (.int .i64 ia) := cell_of hXP2 rfl
              have k2 : wr.cell? ⟨PB, 2, none⟩ = some (.int .i64 ib) := cell_of hXP2 rfl
              have k3 : wr.cell? ⟨PB, 3, none⟩ = some (.int .i64 ic) := cell_of hXP2 rfl
              have hPBl := block_lt hXP2
              have hrow : Hid (∀ V, Below wr.heap.size wr V → GRow 4 V u10 L.length (ca L)) := Lib.hid fun V hV => hXM.row.below hV
              have hsrc : Hid (∀ (V : World) (K : Nat), V.heap[K]? = some (.cells #[.int .i64 op, .int .i64 ia, .int .i64 ib, .int .i64 ic] 29 (0, 0)) → Src Tryd.prog 4 30 (.slice (some ⟨K, 0, none⟩) 1 1) 1 (c4 (op, ia, ib, ic)) V) := Lib.hid fun V K hK => src_new (s := 4) (A := #[.int .i64 op, .int .i64 ia, .int .i64 ib, .int .i64 ic]) Tryd.underlying30 rfl (by simp [Value.oneCell']) hK
              have hbd : L.length + 1 ≤ 1000000 := by omega
              have key : Hid (∀ (W5 : World) (v8 : Value) (w8 : World), Below wr.heap.size wr W5 → GRow 4 w8 v8 (L.length + 1) (ca L ++ c4 (op, ia, ib, ic)) → Wrote (fun k => u10.ownBlock = some k) W5 (fun k => v8.ownBlock = some k) w8 → (∃ s c, v8 = .slice s (L.length + 1) c) ∧ Hid (Rm w w8 zs G a n N i fs hs fv q s v8 (j + 1) (L ++ [(op, ia, ib, ic)]))) := Lib.hid fun W5 v8 w8 hb g1 g2 => ⟨g1.slice, Lib.hid (hXM.next (by omega) hb (by rw [hp.out]; exact hins) (by have := hp.out; omega) g1 g2)⟩
              have hpn := Lib.hid (show q + 1 + 4 * (j + 1) ≤ n by have := hp.out; omega)
              clear hXM hXP hXP2 hxc hins hx hfit hres hlow hll hby
              go_upto_region 37 with fail
              go_region_law (refine step_append_g rfl (.tmp 154) (.tmp 168) rfl rfl eltIns (hrow.out _ (by repeat (first | exact Below.refl _ _ | refine below_alloc ?_ _ | refine below_drewN ?_ _ | refine Below.drew ?_))) rfl rfl (hsrc.out _ _ (heap_alloc_new _ _)) hbd ?_; intro v8 w8 g1 g2; have hk := key.out _ v8 w8 (by repeat (first | exact Below.refl _ _ | refine below_alloc ?_ _ | refine below_drewN ?_ _ | refine Below.drew ?_)) g1 g2; obtain ⟨⟨s8, c8, rfl⟩, hfin⟩ := hk; clear g1 g2 key hrow hsrc)
              all_goals
                clear k0 k1 k2 k3
                go_wp2_with fail
                go_roundw
                case rel => exact ⟨j + 1, by go_num, by have := hp.out; show Value.int .i64 _ = .int .i64 _; congr 1; omega, by omega, Lib.hid ⟨_, hfin.out⟩⟩
                case measure => simp [RowKit.intOf]; omega
        · obtain rfl : j = s := by omega
          have j1 : ¬ (j : Int) < (j : Int) := by omega
          obtain ⟨sl, cl, rfl⟩ := hM.row.slice
          obtain ⟨sf, cf, rfl⟩ := hM.ro.gw.row.slice
          have hfl := fsE_len _ _ hM.ro.ok
          simp only at hfl
          have hnl : fs.length + 1 ≤ 1000000 := by omega
          clear hfl
          have c1 : wr.cell? ⟨N + 1, 1, none⟩ = some (.slice sf fs.length cf) := cell_of hM.ro.blk rfl
          have hbA := below_alloc (Below.refl wr.heap.size wr) (.cells #[.slice sl L.length cl] 30)
          have hG2 : Hid (GRow 1 (wr.alloc (.cells #[.slice sl L.length cl] 30)) (.slice sf fs.length cf) fs.length hs) := Lib.hid (hM.ro.gw.row.below hbA)
          have hsrc : Hid (Src Tryd.prog 1 47 (.slice (some ⟨wr.heap.size, 0, none⟩) 1 1) 1 [.slice sl L.length cl] (wr.alloc (.cells #[.slice sl L.length cl] 30))) := Lib.hid (src_fn rfl (heap_alloc_new _ _))
          have key : Hid (∀ v8 w8, GRow 1 w8 v8 (fs.length + 1) (hs ++ [.slice sl L.length cl]) → Wrote (fun k => (Value.slice sf fs.length cf).ownBlock = some k) (wr.alloc (.cells #[.slice sl L.length cl] 30)) (fun k => v8.ownBlock = some k) w8 → (∃ s c, v8 = .slice s (fs.length + 1) c) ∧ w8.cell? ⟨N + 1, 1, none⟩ = some (.slice sf fs.length cf) ∧ w8.frozen? ⟨N + 1, 1, none⟩ = false ∧ Hid (Ro w (w8.setCell ⟨N + 1, 1, none⟩ v8) zs G a n N (i + 1) (fs ++ [L]) (hs ++ [.slice sl L.length cl]) v8 (q + 1 + 4 * j))) := Lib.hid fun v8 w8 g1 g2 => by
            obtain ⟨r1, r2, r3⟩ := hM.done hfn.out (by omega) hbA g1 g2
            exact ⟨g1.slice, r1, r2, r3⟩
          have hle := hM.le
          clear hM hbA
          obtain ⟨J, hJ⟩ : ∃ J, wr.heap.size = J := ⟨_, rfl⟩
          rw [hJ] at hsrc
          go_wp2_with (at_builtin; refine wpList_append_g rfl (.tmp 173) (.tmp 175) rfl rfl eltFn hG2.out rfl rfl hsrc.out hnl ?_; intro v8 w8 g1 g2; have hk := key.out v8 w8 g1 g2; obtain ⟨⟨s8, c8, rfl⟩, hc8, hf8, hfin⟩ := hk; clear key g1 g2 hG2 hsrc)
          go_roundw
          case rel => exact ⟨i + 1, q + 1 + 4 * j, by go_num, rfl, by omega, hle, Lib.hid ⟨_, _, _, hfin.out⟩⟩
          case measure => simp [RowKit.intOf]; omega
    · obtain rfl : i = a := by omega
      have i1 : ¬ (i : Int) < (i : Int) := by omega
      have hpe := prog_end hfst hsnd hm hG hR.ok
      by_cases hqn : q < n
      · have g1 : (q : Int) < (n : Int) := by omega
        have g2 : decide ((q : Int) < (n : Int)) = true := decide_eq_true g1
        have hq : progE zs = .error q := by rw [hpe, if_pos (by omega)]
        have cb := bad_any q wr
        replace hq := Lib.hid (show progE zs = .error q from hq)
        clear hR hby
        go_wp2_with fail
        with_reducible refine Calls.mono cb ?_
        rintro e wb ⟨rfl, hbb⟩
        obtain ⟨kk0, kk1, r0, r1, f0, f1, hfin⟩ := exit_fin hres hbb hlow (by omega) hq.out
        replace hfin := Lib.hid hfin
        clear cb hbb
        go_wp2_with fail
        refine bodyPost_ret (v := .tuple #[.agg #[.int .i64 0, .slice none 0 0], .int .i64 6, .int .i64 q]) (by simp [results, Tryd.results38, go_sem, kk0, kk1]) rfl hfin.out
      · have g1 : ¬ (q : Int) < (n : Int) := by omega
        have g2 : decide ((q : Int) < (n : Int)) = false := decide_eq_false g1
        have hq : progE zs = .ok (G, fs) := by rw [hpe, if_neg (by omega)]
        have hfl := fsE_len _ _ hR.ok
        simp only at hfl
        have hfl2 : fs.length ≤ 1000000 := by omega
        clear hfl
        obtain ⟨sv, cv, rfl⟩ := hR.gw.row.slice
        have b0 : wr.cell? ⟨N + 1, 0, none⟩ = some (.int .i64 G) := cell_of hR.blk rfl
        have b1 : wr.cell? ⟨N + 1, 1, none⟩ = some (.slice sv fs.length cv) := cell_of hR.blk rfl
        have r0 : wr.cell? ⟨N, 0, none⟩ = some (.int .i64 0) := cell_of hres rfl
        have r1 : wr.cell? ⟨N, 1, none⟩ = some (.slice none 0 0) := cell_of hres rfl
        have f0 := frozen_of_row _ _ 0 _ _ hres
        have f1 := frozen_of_row _ _ 1 _ _ hres
        have p0 := heap_setCell_same _ N 0 _ _ (.int .i64 G) hres
        have p1 := heap_setCell_same _ N 1 _ _ (.slice sv fs.length cv) p0
        have w0 : Wrote (fun k => k = N) wr (fun k => k = N) (wr.setCell ⟨N, 0, none⟩ (.int .i64 G)) := wrote_setCell (a := ⟨N, 0, none⟩) rfl rfl rfl rfl rfl
        have w1 : Wrote (fun k => k = N) (wr.setCell ⟨N, 0, none⟩ (.int .i64 G)) (fun k => k = N) ((wr.setCell ⟨N, 0, none⟩ (.int .i64 G)).setCell ⟨N, 1, none⟩ (.slice sv fs.length cv)) := wrote_setCell (a := ⟨N, 1, none⟩) rfl rfl rfl rfl rfl
        have w2 := w0.trans w1
        have hfin : Hid (DecR w zs (.returned (.tuple #[.agg #[.int .i64 G, .slice sv fs.length cv], .int .i64 0, .int .i64 0])) ((wr.setCell ⟨N, 0, none⟩ (.int .i64 G)).setCell ⟨N, 1, none⟩ (.slice sv fs.length cv))) := Lib.hid (.inl ⟨G, fs, _, hq, rfl, (hR.gw.wrote w2 (fun k e => by have e : k = N := e; omega)).frow hfl2, hlow.out.trans (below_of_w w2 (fun k e => by have e : k = N := e; omega) hlow.out.size)⟩)
        have kk0 : ((wr.setCell ⟨N, 0, none⟩ (.int .i64 G)).setCell ⟨N, 1, none⟩ (.slice sv fs.length cv)).cell? ⟨N, 0, none⟩ = some (.int .i64 G) := cell_of p1 rfl
        have kk1 : ((wr.setCell ⟨N, 0, none⟩ (.int .i64 G)).setCell ⟨N, 1, none⟩ (.slice sv fs.length cv)).cell? ⟨N, 1, none⟩ = some (.slice sv fs.length cv) := cell_of p1 rfl
        clear hR hby hpe hq w0 w1 w2 p0 p1
        go_wp2_with fail
        refine bodyPost_ret (v := .tuple #[.agg #[.int .i64 G, .slice sv fs.length cv], .int .i64 0, .int .i64 0]) (by simp [results, Tryd.results38, go_sem, kk0, kk1]) rfl hfin.out
end Cd
end Go.Proofs.YtapkcjbfflgplaaDoor
