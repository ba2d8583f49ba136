/- Each part of an instruction may have just the numbers of its kind (15.1): a load, a store, a get, a put, a spawn, a jump, a block, with any number in one of its parts, in a program of any numbers of globals, functions and instructions. No further condition but the listed table. -/
import Derived.Test.YtbheabjemaaeoaaDoorHome
import Derived.Test.YtbheabjemaaeoaaDoorBndMath
import Derived.WalkKit
import Derived.ProofKit
import Derived.OpenShut
import Derived.Test.YtbheabjemaaeoaaDoorTie
import Derived.Test.YtbheabjemaaeoaaDoorCards
import Derived.LaidMore
import Derived.Stop.Joined
import Derived.SevenTiedAt
import Derived.Deep.RegionHeld3
import Derived.Deep.RegionWith
import Derived.Deep.Cut
import Derived.Deep.CutBlock
import Derived.Deep.CutRange
import Derived.Deep.LoopGhost
import Derived.Deep.DeepCutAuto
import Derived.RegionTactic
import Derived.StillTailTactics
import Derived.Deep.RegionLaw
namespace Go.Proofs.YtbheabjemaaeoaaDoor.codeBounds
open Go.ChangeShapes Go.WideShapes Go.ChangeAt Go.WideElems Go.RowKit Go.Lib Fx Ho Gr Cd
set_option linter.unusedVariables false

theorem own : ownKnob Tryd.prog.godebug = none := by kernel_rfl

theorem bel_own {w w1 w2 : World} {N : Nat} (hN : w.heap.size = N) (hw : Wrote (fun k => k = N) w1 (fun k => k = N) w2) (h1 : Below w.heap.size w w1 := by exact below_alloc (Below.refl _ _) _) : Hid (Below w.heap.size w w2) :=
  Lib.hid (h1.trans ⟨hw.os, hw.tape, hw.output, hw.size, fun k hk => hw.block k (by have := h1.size; omega) (fun e => by have e : k = N := e; omega)⟩)
set_option maxRecDepth 100000 in
set_option maxHeartbeats 4000000 in
theorem walk (a0 : Int) (a1 : Int) (a2 : Int) (a3 : Int) (a4 : Int) (w : World) (hT : Tk w) (w0 : (Lit.int .i64 a0).wf = true) (w1 : (Lit.int .i64 a1).wf = true) (w2 : (Lit.int .i64 a2).wf = true) (w3 : (Lit.int .i64 a3).wf = true) (w4 : (Lit.int .i64 a4).wf = true) :
    Calls Tryd.prog 12 #[.int .i64 a0, .int .i64 a1, .int .i64 a2, .int .i64 a3, .int .i64 a4] w fun e w' => e = .returned (.bool true) ∧ Below w.heap.size w w' := by
  obtain ⟨Y0, h00⟩ : ∃ Y : Int, IntKind.u64.wrap a0 = Y := ⟨_, rfl⟩
  obtain ⟨Y1, h01⟩ : ∃ Y : Int, IntKind.u64.wrap a1 = Y := ⟨_, rfl⟩
  obtain ⟨Y2, h02⟩ : ∃ Y : Int, IntKind.u64.wrap a2 = Y := ⟨_, rfl⟩
  obtain ⟨Y3, h03⟩ : ∃ Y : Int, IntKind.u64.wrap a3 = Y := ⟨_, rfl⟩
  obtain ⟨Y4, h04⟩ : ∃ Y : Int, IntKind.u64.wrap a4 = Y := ⟨_, rfl⟩
  have p0 : 0 ≤ Y0 := by rw [← h00, IntKind.wrap_u64]; omega
  have p1 : 0 ≤ Y1 := by rw [← h01, IntKind.wrap_u64]; omega
  have p2 : 0 ≤ Y2 := by rw [← h02, IntKind.wrap_u64]; omega
  have p3 : 0 ≤ Y3 := by rw [← h03, IntKind.wrap_u64]; omega
  have p4 : 0 ≤ Y4 := by rw [← h04, IntKind.wrap_u64]; omega
  obtain ⟨q, hq⟩ : ∃ q : Int, Y0 % 7 = q := ⟨_, rfl⟩
  obtain ⟨x, hx⟩ : ∃ x : Int, Y1 % 300 - 20 = x := ⟨_, rfl⟩
  obtain ⟨G, hG⟩ : ∃ G : Int, Y2 % 33 = G := ⟨_, rfl⟩
  obtain ⟨f, hf⟩ : ∃ f : Nat, 1 + Y3 % 16 = (f : Int) := ⟨(1 + Y3 % 16).toNat, by omega⟩
  obtain ⟨k, hk⟩ : ∃ k : Nat, 1 + Y4 % 64 = (k : Int) := ⟨(1 + Y4 % 64).toNat, by omega⟩
  have f1 : 1 ≤ f ∧ f ≤ 16 := by omega
  have k1 : 1 ≤ k ∧ k ≤ 64 := by omega
  have g1 : 0 ≤ G ∧ G ≤ 32 := by omega
  have x1 : -20 ≤ x ∧ x < 280 := by omega
  have q1 : 0 ≤ q ∧ q < 7 := by omega
  have hI := heap_alloc_new w (.cells #[.int .i64 0, .int .i64 0, .int .i64 0, .int .i64 0] 29)
  obtain ⟨N, hN⟩ : ∃ N, w.heap.size = N := ⟨_, rfl⟩
  rw [hN] at hI
  go_enter Tryd.func12, Tryd.ntmps12
  go_upto_block 0 with fail
  try rw [hq]
  try rw [hG]
  try rw [hx]
  try rw [hf]
  try rw [hk]
  clear hq hx hG hf hk h00 h01 h02 h03 h04
  go_cut [16] from 45 to 74 (fun s16 wx => ∃ (Mo : Int) (y : Ins), s16 = .int .i64 Mo ∧ Hid (okI G f k y = decide (0 ≤ x ∧ x < Mo)) ∧ Hid (wx.heap[N]? = some (.cells #[.int .i64 y.1, .int .i64 y.2.1, .int .i64 y.2.2.1, .int .i64 y.2.2.2] 29 (0, 0))) ∧ Hid (Below w.heap.size w wx))
  case first =>
    clear hI
    rcases (show q = 0 ∨ q = 1 ∨ q = 2 ∨ q = 3 ∨ q = 4 ∨ q = 5 ∨ q = 6 by omega) with rfl | rfl | rfl | rfl | rfl | rfl | rfl
    · go_wp2_with fail
      go_meet
      exact ⟨16, (2, x, 0, 0), rfl, Lib.hid (ok_seven (G := G) (nf := (f : Int)) (len := (k : Int)) x).1, Lib.hid (by rw [← hN]; exact heap_alloc_new _ _), Lib.hid (below_alloc (Below.refl _ _) _)⟩
    · go_wp2_with fail
      go_meet
      exact ⟨256, (3, 0, x, 0), rfl, Lib.hid (ok_seven (G := G) (nf := (f : Int)) (len := (k : Int)) x).2.1, Lib.hid (by rw [← hN]; exact heap_alloc_new _ _), Lib.hid (below_alloc (Below.refl _ _) _)⟩
    · go_wp2_with fail
      go_meet
      exact ⟨G, (6, 0, x, 0), rfl, Lib.hid (ok_seven (G := G) (nf := (f : Int)) (len := (k : Int)) x).2.2.1, Lib.hid (by rw [← hN]; exact heap_alloc_new _ _), Lib.hid (below_alloc (Below.refl _ _) _)⟩
    · go_wp2_with fail
      go_meet
      exact ⟨G, (7, x, 0, 0), rfl, Lib.hid (ok_seven (G := G) (nf := (f : Int)) (len := (k : Int)) x).2.2.2.1, Lib.hid (by rw [← hN]; exact heap_alloc_new _ _), Lib.hid (below_alloc (Below.refl _ _) _)⟩
    · go_wp2_with fail
      go_meet
      exact ⟨(f : Int), (8, x, 0, 0), rfl, Lib.hid (ok_seven (G := G) (nf := (f : Int)) (len := (k : Int)) x).2.2.2.2.1, Lib.hid (by rw [← hN]; exact heap_alloc_new _ _), Lib.hid (below_alloc (Below.refl _ _) _)⟩
    · go_wp2_with fail
      go_meet
      exact ⟨(k : Int), (14, x, 0, 0), rfl, Lib.hid (ok_seven (G := G) (nf := (f : Int)) (len := (k : Int)) x).2.2.2.2.2.1, Lib.hid (by rw [← hN]; exact heap_alloc_new _ _), Lib.hid (below_alloc (Below.refl _ _) _)⟩
    · go_wp2_with fail
      go_meet
      exact ⟨32, (11, x, 0, 0), rfl, Lib.hid (ok_seven (G := G) (nf := (f : Int)) (len := (k : Int)) x).2.2.2.2.2.2, Lib.hid (by rw [← hN]; exact heap_alloc_new _ _), Lib.hid (below_alloc (Below.refl _ _) _)⟩
  case rest =>
    obtain ⟨Mo, y, rfl, hok, hin, hbl⟩ := hcut
    have hT2 : Hid (∀ V, Below w.heap.size w V → Tk V) := Lib.hid fun V hV => hT.below hV
    have hok : Hid (okI G f k y = true ↔ (0 ≤ x ∧ x < Mo)) := Lib.hid (by rw [hok.out]; exact decide_eq_true_iff)
    have hst : Hid (Bn w (wc.alloc (.cells #[.int .i64 G, .slice none 0 0] 49)) N wc.heap.size y G (List.replicate 0 (List.replicate k zi)) [] (.slice none 0 0)) := by
      have hb0 := below_alloc (Below.refl wc.heap.size wc) (.cells #[.int .i64 G, .slice none 0 0] 49)
      have hNs := block_lt hin.out
      refine Lib.hid ⟨heap_alloc_new _ _, (hb0.block _ hNs).trans hin.out, ⟨rfl, grow_nil _ _, fun i hi => by simp at hi, fun B hB => by simp at hB, fun k hk => by cases hk⟩, hbl.out.trans (hb0.mono hbl.out.size), ⟨hNs, by omega⟩, fun i j _ hj => by simp at hj⟩
    have hmay := Lib.hid (bnd_may (G := G) (x := y) f1 k1 g1)
    clear hT hI hbl hin hN w0 w1 w2 w3 w4 p0 p1 p2 p3 p4 q1
    obtain ⟨M, hM⟩ : ∃ M, wc.heap.size = M := ⟨_, rfl⟩
    rw [hM] at hst
    go_wp2_with fail
    obtain ⟨wd, hwd⟩ : ∃ wd, wc.alloc (.cells #[.int .i64 G, .slice none 0 0] 49) = wd := ⟨_, rfl⟩
    rw [hwd] at hst ⊢
    clear hwd hM
    have hmk : ∀ W : World, (Instr.makeSlice 30 (.int .i64 k) (.int .i64 k)).run Tryd.prog W = .ok (.slice (some ⟨W.heap.size, 0, none⟩) k k) (W.alloc (.cells (ca (List.replicate k zi)).toArray 29)) := fun W => by
      obtain ⟨ti, hi, hz0, hz1, hz2⟩ := info_parts infoInst
      have h := run_make (P := Tryd.prog) (w := W) 30 29 ti (.agg #[.int .i64 0, .int .i64 0, .int .i64 0, .int .i64 0]) Tryd.underlying30 hi hz0 .i64 .i64 (k : Int) (k : Int) (by omega) (Int.le_refl _) (by rw [hz2]; omega) (by omega)
      rw [hz1, Int.toNat_natCast] at h
      rw [h, ← made_ins k]
    have hlen : (List.replicate k zi).length = k := List.length_replicate
    go_loopw [18] (fun u18 wr => ∃ i : Nat, u18 = .int .i64 i ∧ i ≤ f ∧ Hid (∃ Bs fv, Bn w wr N M y G (List.replicate i (List.replicate k zi)) Bs fv)) (fun y _ => (f - (RowKit.intOf y).toNat))
    case atStart => exact ⟨0, rfl, by omega, Lib.hid ⟨_, _, hst.out⟩⟩
    case round =>
      clear hst
      obtain ⟨i, rfl, im, hB⟩ := hrel
      have i0 : (0 : Int) ≤ (i : Int) := by omega
      obtain ⟨Bs, fv, hB⟩ := hB.out
      by_cases hi : i < f
      · have i1 : (i : Int) < (f : Int) := by omega
        have hli : (List.replicate i (List.replicate k zi)).length = i := List.length_replicate
        have hrow := hB.fw.row
        rw [hli] at hrow
        obtain ⟨sv, cv, rfl⟩ := hrow.slice
        replace hrow : Hid (∀ W, Below wr.heap.size wr W → GRow 1 W (.slice sv i cv) i (hd Bs (List.replicate i (List.replicate k zi)))) := Lib.hid fun W hW => hrow.below hW
        have c1 : wr.cell? ⟨M, 1, none⟩ = some (.slice sv i cv) := cell_of hB.blk rfl
        have hbd : i + 1 ≤ 1000000 := by omega
        have key : Hid (∀ W v8 w8, Below wr.heap.size wr W → W.heap[wr.heap.size]? = some (.cells (ca (List.replicate k zi)).toArray 29 (0, 0)) → GRow 1 w8 v8 (i + 1) (hd Bs (List.replicate i (List.replicate k zi)) ++ [.slice (some ⟨wr.heap.size, 0, none⟩) k k]) → Wrote (fun k => (Value.slice sv i cv).ownBlock = some k) W (fun k => v8.ownBlock = some k) w8 → (∃ s c, v8 = .slice s (i + 1) c) ∧ w8.cell? ⟨M, 1, none⟩ = some (.slice sv i cv) ∧ w8.frozen? ⟨M, 1, none⟩ = false ∧ Hid (∃ Bs fv, Bn w (w8.setCell ⟨M, 1, none⟩ v8) N M y G (List.replicate (i + 1) (List.replicate k zi)) Bs fv)) := Lib.hid fun W v8 w8 hW hbk g1 g2 => by
          have hMs := block_lt hB.blk
          obtain ⟨r1, r2, r3⟩ := (hB.below hW).stored (l := List.replicate k zi) (B := wr.heap.size) (v8 := v8) (w8 := w8) hbk (by rw [hlen]; omega) hMs (fun e => by have := hB.fw.row.lt e; omega) (fun t ht => block_lt (hB.fw.ins t ht).1) (by rw [hli, hlen]; exact g1) g2
          have e : List.replicate (i + 1) (List.replicate k zi) = List.replicate i (List.replicate k zi) ++ [List.replicate k zi] := by rw [List.replicate_succ']
          exact ⟨g1.slice, r2, r1, Lib.hid ⟨_, _, by rw [e]; exact r3⟩⟩
        clear hB hli hlen
        replace hmk := Lib.hid hmk
        have hmk2 := hmk.out
        generalize (ca (List.replicate k zi)).toArray = CC at *
        have bA := below_alloc (Below.refl wr.heap.size wr) (.cells CC 29)
        have bB := (below_alloc bA (.cells #[.slice (some ⟨wr.heap.size, 0, none⟩) k k] 30)).drew
        have hA := heap_alloc_new wr (.cells CC 29)
        have hB2 : ((wr.alloc (.cells CC 29)).alloc (.cells #[.slice (some ⟨wr.heap.size, 0, none⟩) k k] 30)).drew.heap[wr.heap.size]? = some (.cells CC 29 (0, 0)) := ((below_alloc (Below.refl (wr.alloc (.cells CC 29)).heap.size (wr.alloc (.cells CC 29))) (.cells #[.slice (some ⟨wr.heap.size, 0, none⟩) k k] 30)).block _ (block_lt hA)).trans hA
        have hC2 := heap_alloc_new (wr.alloc (.cells CC 29)) (.cells #[.slice (some ⟨wr.heap.size, 0, none⟩) k k] 30)
        rw [show (wr.alloc (.cells CC 29)).heap.size = wr.heap.size + 1 by show (wr.heap.push _).size = _; rw [Array.size_push]] at hC2
        have hsrcD : Hid (Src Tryd.prog 1 47 (.slice (some ⟨wr.heap.size + 1, 0, none⟩) 1 1) 1 [.slice (some ⟨wr.heap.size, 0, none⟩) k k] ((wr.alloc (.cells CC 29)).alloc (.cells #[.slice (some ⟨wr.heap.size, 0, none⟩) k k] 30)).drew) := Lib.hid (src_fn rfl hC2)
        have hrowD : Hid (GRow 1 ((wr.alloc (.cells CC 29)).alloc (.cells #[.slice (some ⟨wr.heap.size, 0, none⟩) k k] 30)).drew (.slice sv i cv) i (hd Bs (List.replicate i (List.replicate k zi)))) := Lib.hid (hrow.out _ bB)
        have keyD : Hid (∀ v8 w8, GRow 1 w8 v8 (i + 1) (hd Bs (List.replicate i (List.replicate k zi)) ++ [.slice (some ⟨wr.heap.size, 0, none⟩) k k]) → Wrote (fun k => (Value.slice sv i cv).ownBlock = some k) ((wr.alloc (.cells CC 29)).alloc (.cells #[.slice (some ⟨wr.heap.size, 0, none⟩) k k] 30)).drew (fun k => v8.ownBlock = some k) w8 → (∃ s c, v8 = .slice s (i + 1) c) ∧ w8.cell? ⟨M, 1, none⟩ = some (.slice sv i cv) ∧ w8.frozen? ⟨M, 1, none⟩ = false ∧ Hid (∃ Bs fv, Bn w (w8.setCell ⟨M, 1, none⟩ v8) N M y G (List.replicate (i + 1) (List.replicate k zi)) Bs fv)) := Lib.hid fun v8 w8 g1 g2 => key.out _ v8 w8 bB hB2 g1 g2
        have c1a := cell_then bA c1
        have c1b := cell_then (below_alloc bA (.cells #[.slice (some ⟨wr.heap.size, 0, none⟩) k k] 30)) c1
        clear bA bB hA hB2 hC2 hrow key
        go_wp2_with fail
        go_region_law (refine step_append_g rfl (.tmp 83) (.tmp 86) rfl rfl eltFn hrowD.out rfl rfl hsrcD.out hbd ?_; intro v8 w8 g1 g2; have hk := keyD.out v8 w8 g1 g2; obtain ⟨⟨s8, c8, rfl⟩, hc8, hf8, hfin⟩ := hk; clear g1 g2 keyD hrowD hsrcD)
        all_goals
          go_wp2_with fail
          go_roundw
          case rel => exact ⟨i + 1, by go_num, by omega, hfin⟩
          case measure => simp [RowKit.intOf]; omega
      · obtain rfl : i = f := by omega
        have i1 : ¬ (i : Int) < (i : Int) := by omega
        clear hmk
        obtain ⟨a, ha⟩ : ∃ a : Nat, a + 1 = i := ⟨i - 1, by omega⟩
        obtain ⟨d, hd0⟩ : ∃ d : Nat, d + 1 = k := ⟨k - 1, by omega⟩
        have hli : (List.replicate i (List.replicate k zi)).length = i := List.length_replicate
        have hai : a < (List.replicate i (List.replicate k zi)).length := by rw [hli]; omega
        have hrk : (List.replicate i (List.replicate k zi)).getD a [] = List.replicate k zi := by rw [List.getD_eq_getElem?_getD, List.getElem?_replicate, if_pos (by omega)]; rfl
        obtain ⟨sv, b0, o0, cv, efv, _, _, hb1, hb2⟩ := hB.fw.row.cell
        rw [hli] at efv
        obtain ⟨rfl, _, _⟩ := hb1 (by rw [hli] at *; omega)
        have hd1 := (hb2 a _ (hd_get hB.fw.len hai)).1
        rw [hrk, hlen] at hd1
        have hib := (hB.fw.ins a hai).1
        rw [hrk] at hib
        obtain ⟨⟨n0, n1, n2, n3⟩, u0, u1, u2, u3⟩ := hib.cells (i := d) (by rw [hlen]; omega)
        obtain ⟨hblk, hbV, hfr⟩ := hB.write hai (j := d) (by rw [hrk, hlen]; omega) y
        have hpf : (List.replicate i (List.replicate k zi)).set a ((List.replicate k zi).set d y) = pf i k y := by unfold pf; rw [show i - 1 = a by omega, show k - 1 = d by omega]
        replace hfr := hfr (by rw [hli]; omega)
        rw [hrk, hpf] at hfr
        have hx0 := cell_of hB.ins (j := 0) rfl
        have hx1 := cell_of hB.ins (j := 1) rfl
        have hx2 := cell_of hB.ins (j := 2) rfl
        have hx3 := cell_of hB.ins (j := 3) rfl
        have c1 : wr.cell? ⟨M, 1, none⟩ = some fv := cell_of hB.blk rfl
        rw [efv] at c1
        generalize Bs.getD a 0 = B' at *
        have zf : (i : Int) - 1 = (a : Int) := by omega
        have zk : (k : Int) - 1 = (d : Int) := by omega
        have a0' : (0 : Int) ≤ (a : Int) := by omega
        have a1' : (a : Int) < (i : Int) := by omega
        have a2' : a < i := by omega
        have d0' : (0 : Int) ≤ (d : Int) := by omega
        have d1' : (d : Int) < (k : Int) := by omega
        have d2' : d < k := by omega
        replace hfr := Lib.hid hfr
        replace hbV := Lib.hid hbV
        replace hblk := Lib.hid hblk
        clear hB hib hb1 hb2 hrk hpf hai hli hlen
        go_wp2_with fail
        go_region
        replace hblk : Hid (((((wr.setCell ⟨B', d * 4, none⟩ (.int .i64 y.1)).setCell ⟨B', d * 4 + 1, none⟩ (.int .i64 y.2.1)).setCell ⟨B', d * 4 + 2, none⟩ (.int .i64 y.2.2.1)).setCell ⟨B', d * 4 + 3, none⟩ (.int .i64 y.2.2.2)).drew.heap[M]? = some (.cells #[.int .i64 G, fv] 49 (0, 0))) := hblk
        replace hbV : Hid (Below w.heap.size w ((((wr.setCell ⟨B', d * 4, none⟩ (.int .i64 y.1)).setCell ⟨B', d * 4 + 1, none⟩ (.int .i64 y.2.1)).setCell ⟨B', d * 4 + 2, none⟩ (.int .i64 y.2.2.1)).setCell ⟨B', d * 4 + 3, none⟩ (.int .i64 y.2.2.2)).drew) := Lib.hid hbV.out.drew
        replace hfr : Hid (FRow ((((wr.setCell ⟨B', d * 4, none⟩ (.int .i64 y.1)).setCell ⟨B', d * 4 + 1, none⟩ (.int .i64 y.2.1)).setCell ⟨B', d * 4 + 2, none⟩ (.int .i64 y.2.2.1)).setCell ⟨B', d * 4 + 3, none⟩ (.int .i64 y.2.2.2)).drew fv (pf i k y)) := Lib.hid (hfr.out.below (Below.refl _ _).drew)
        obtain ⟨wv, hwv⟩ : ∃ wv, ((((wr.setCell ⟨B', d * 4, none⟩ (.int .i64 y.1)).setCell ⟨B', d * 4 + 1, none⟩ (.int .i64 y.2.1)).setCell ⟨B', d * 4 + 2, none⟩ (.int .i64 y.2.2.1)).setCell ⟨B', d * 4 + 3, none⟩ (.int .i64 y.2.2.2)).drew = wv := ⟨_, rfl⟩
        rw [hwv] at hblk hbV hfr ⊢
        clear hwv n0 n1 n2 n3 u0 u1 u2 u3 c1 hd1 hx0 hx1 hx2 hx3
        have m0 : wv.cell? ⟨M, 0, none⟩ = some (.int .i64 G) := cell_of hblk.out rfl
        have m1 : wv.cell? ⟨M, 1, none⟩ = some fv := cell_of hblk.out rfl
        have ce := encode_any (hT2.out wv hbV.out) hfr.out G
        replace hfr : Hid (∀ V, Below wv.heap.size wv V → FRow V fv (pf i k y)) := Lib.hid fun V hV => hfr.out.below hV
        subst efv
        obtain ⟨P, hP⟩ : ∃ P : Int, (i : Int) * (k : Int) = P := ⟨_, rfl⟩
        have hP1 : 1 ≤ P ∧ P ≤ 1024 := by
          have h1 : i * k ≤ 16 * 64 := Nat.mul_le_mul (by omega) (by omega)
          have h2 : 1 * 1 ≤ i * k := Nat.mul_le_mul (by omega) (by omega)
          have h3 : ((i * k : Nat) : Int) = P := by rw [← hP]; push_cast; rfl
          omega
        have wP : IntKind.i64.wrap P = P := by rw [IntKind.wrap_i64]; omega
        have wP1 : IntKind.i64.wrap (1 + P) = 1 + P := by rw [IntKind.wrap_i64]; omega
        rw [hP] at hmay
        clear hblk
        by_cases hx2 : x < 0
        · have e1 : decide (x < 0) = true := decide_eq_true hx2
          have hno : ¬ okI G i k y = true := fun h => by have := hok.out.1 h; omega
          rw [if_neg hno] at hmay
          clear hok hno
          obtain ⟨r, hr⟩ : ∃ r, 1 + P = r := ⟨_, rfl⟩
          have hr0 : r ≠ 0 := by omega
          have hr1 : (r == 0) = false := beq_eq_false_iff_ne.2 hr0
          rw [hr] at hmay
          go_wp2_with fail
          with_reducible refine Calls.mono ce ?_
          intro e w5 hE
          obtain ⟨b5, z, rfl, hb5, hz⟩ : ∃ (b : Value) (z : Int), e = .returned (.tuple #[b, .int .i64 z]) ∧ Below wv.heap.size wv w5 ∧ ((r = 0 ∧ z = 0) ∨ (r ≠ 0 ∧ z = 1)) := by
            rcases hE with ⟨hm, v, he, hv⟩ | ⟨r', hm, hr', he, hb⟩
            · exact ⟨v, 0, he, hv.low, .inl ⟨hmay.out.one hm, rfl⟩⟩
            · exact ⟨_, 1, he, hb, .inr ⟨fun e => hr' ((hm.one hmay.out).trans e), rfl⟩⟩
          have hz0 : z = 1 := by omega
          subst hz0
          have hbw5 := Lib.hid (hbV.out.trans (hb5.mono hbV.out.size))
          have ct := told_any (hT2.out _ hbw5.out)
          have m0 := cell_then hb5 m0
          have m1 := cell_then hb5 m1
          have hV5 : Hid (∀ V, Below w5.heap.size w5 V → FRow V (.slice (some ⟨b0, o0, none⟩) i cv) (pf i k y)) := Lib.hid fun V hV => hfr.out V (hb5.trans (hV.mono hb5.size))
          clear ce hE hz hbV hb5 hfr
          go_wp2_with fail
          with_reducible refine Calls.mono ct ?_
          rintro e w6 ⟨rfl, hb6⟩
          clear ct
          have hbw6 := Lib.hid (hbw5.out.trans (hb6.mono hbw5.out.size))
          have cm := codemay_any (hT2.out _ hbw6.out) (hV5.out _ hb6) G
          have m0 := cell_then hb6 m0
          have m1 := cell_then hb6 m1
          have hV6 : Hid (∀ V, Below w6.heap.size w6 V → FRow V (.slice (some ⟨b0, o0, none⟩) i cv) (pf i k y)) := Lib.hid fun V hV => hV5.out V (hb6.trans (hV.mono hb6.size))
          clear hV5 hbw5 hb6
          go_wp2_with fail
          with_reducible refine Calls.mono cm ?_
          rintro e w7 ⟨r7, rfl, hr7, hb7⟩
          obtain rfl : r7 = r := hr7.one hmay.out
          clear cm
          have hbw7 := Lib.hid (hbw6.out.trans (hb7.mono hbw6.out.size))
          have cr := refmay_any (hV6.out _ hb7) G
          have m0 := cell_then hb7 m0
          have m1 := cell_then hb7 m1
          clear hV6 hbw6 hb7 hr7
          go_wp2_with fail
          with_reducible refine Calls.mono cr ?_
          rintro e w8 ⟨r8, rfl, hr8, hb8⟩
          obtain rfl : r8 = r7 := hr8.one hmay.out
          have hfin := hbw7.out.trans (hb8.mono hbw7.out.size)
          clear cr hb8 hbw7 hr8 hmay
          go_wp2_with fail
          go_ret
          exact ⟨rfl, hfin⟩
        · have e1 : decide (x < 0) = false := decide_eq_false hx2
          by_cases hx3 : Mo ≤ x
          · have e2 : decide (Mo ≤ x) = true := decide_eq_true hx3
            have hno : ¬ okI G i k y = true := fun h => by have := hok.out.1 h; omega
            rw [if_neg hno] at hmay
            clear hok hno
            obtain ⟨r, hr⟩ : ∃ r, 1 + P = r := ⟨_, rfl⟩
            have hr0 : r ≠ 0 := by omega
            have hr1 : (r == 0) = false := beq_eq_false_iff_ne.2 hr0
            rw [hr] at hmay
            go_wp2_with fail
            with_reducible refine Calls.mono ce ?_
            intro e w5 hE
            obtain ⟨b5, z, rfl, hb5, hz⟩ : ∃ (b : Value) (z : Int), e = .returned (.tuple #[b, .int .i64 z]) ∧ Below wv.heap.size wv w5 ∧ ((r = 0 ∧ z = 0) ∨ (r ≠ 0 ∧ z = 1)) := by
              rcases hE with ⟨hm, v, he, hv⟩ | ⟨r', hm, hr', he, hb⟩
              · exact ⟨v, 0, he, hv.low, .inl ⟨hmay.out.one hm, rfl⟩⟩
              · exact ⟨_, 1, he, hb, .inr ⟨fun e => hr' ((hm.one hmay.out).trans e), rfl⟩⟩
            have hz0 : z = 1 := by omega
            subst hz0
            have hbw5 := Lib.hid (hbV.out.trans (hb5.mono hbV.out.size))
            have ct := told_any (hT2.out _ hbw5.out)
            have m0 := cell_then hb5 m0
            have m1 := cell_then hb5 m1
            have hV5 : Hid (∀ V, Below w5.heap.size w5 V → FRow V (.slice (some ⟨b0, o0, none⟩) i cv) (pf i k y)) := Lib.hid fun V hV => hfr.out V (hb5.trans (hV.mono hb5.size))
            clear ce hE hz hbV hb5 hfr
            go_wp2_with fail
            with_reducible refine Calls.mono ct ?_
            rintro e w6 ⟨rfl, hb6⟩
            clear ct
            have hbw6 := Lib.hid (hbw5.out.trans (hb6.mono hbw5.out.size))
            have cm := codemay_any (hT2.out _ hbw6.out) (hV5.out _ hb6) G
            have m0 := cell_then hb6 m0
            have m1 := cell_then hb6 m1
            have hV6 : Hid (∀ V, Below w6.heap.size w6 V → FRow V (.slice (some ⟨b0, o0, none⟩) i cv) (pf i k y)) := Lib.hid fun V hV => hV5.out V (hb6.trans (hV.mono hb6.size))
            clear hV5 hbw5 hb6
            go_wp2_with fail
            with_reducible refine Calls.mono cm ?_
            rintro e w7 ⟨r7, rfl, hr7, hb7⟩
            obtain rfl : r7 = r := hr7.one hmay.out
            clear cm
            have hbw7 := Lib.hid (hbw6.out.trans (hb7.mono hbw6.out.size))
            have cr := refmay_any (hV6.out _ hb7) G
            have m0 := cell_then hb7 m0
            have m1 := cell_then hb7 m1
            clear hV6 hbw6 hb7 hr7
            go_wp2_with fail
            with_reducible refine Calls.mono cr ?_
            rintro e w8 ⟨r8, rfl, hr8, hb8⟩
            obtain rfl : r8 = r7 := hr8.one hmay.out
            have hfin := hbw7.out.trans (hb8.mono hbw7.out.size)
            clear cr hb8 hbw7 hr8 hmay
            go_wp2_with fail
            go_ret
            exact ⟨rfl, hfin⟩
          · have e2 : decide (Mo ≤ x) = false := decide_eq_false hx3
            rw [if_pos (hok.out.2 (by omega))] at hmay
            clear hok
            go_wp2_with fail
            with_reducible refine Calls.mono ce ?_
            intro e w5 hE
            obtain ⟨b5, z, rfl, hb5, hz⟩ : ∃ (b : Value) (z : Int), e = .returned (.tuple #[b, .int .i64 z]) ∧ Below wv.heap.size wv w5 ∧ (((0 : Int) = 0 ∧ z = 0) ∨ ((0 : Int) ≠ 0 ∧ z = 1)) := by
              rcases hE with ⟨hm, v, he, hv⟩ | ⟨r', hm, hr', he, hb⟩
              · exact ⟨v, 0, he, hv.low, .inl ⟨hmay.out.one hm, rfl⟩⟩
              · exact ⟨_, 1, he, hb, .inr ⟨fun e => hr' ((hm.one hmay.out).trans e), rfl⟩⟩
            have hz0 : z = 0 := by omega
            subst hz0
            have hbw5 := Lib.hid (hbV.out.trans (hb5.mono hbV.out.size))
            have ct := told_any (hT2.out _ hbw5.out)
            have m0 := cell_then hb5 m0
            have m1 := cell_then hb5 m1
            have hV5 : Hid (∀ V, Below w5.heap.size w5 V → FRow V (.slice (some ⟨b0, o0, none⟩) i cv) (pf i k y)) := Lib.hid fun V hV => hfr.out V (hb5.trans (hV.mono hb5.size))
            clear ce hE hz hbV hb5 hfr
            go_wp2_with fail
            with_reducible refine Calls.mono ct ?_
            rintro e w6 ⟨rfl, hb6⟩
            clear ct
            have hbw6 := Lib.hid (hbw5.out.trans (hb6.mono hbw5.out.size))
            have cm := codemay_any (hT2.out _ hbw6.out) (hV5.out _ hb6) G
            have m0 := cell_then hb6 m0
            have m1 := cell_then hb6 m1
            have hV6 : Hid (∀ V, Below w6.heap.size w6 V → FRow V (.slice (some ⟨b0, o0, none⟩) i cv) (pf i k y)) := Lib.hid fun V hV => hV5.out V (hb6.trans (hV.mono hb6.size))
            clear hV5 hbw5 hb6
            go_wp2_with fail
            with_reducible refine Calls.mono cm ?_
            rintro e w7 ⟨r7, rfl, hr7, hb7⟩
            obtain rfl : r7 = 0 := hr7.one hmay.out
            clear cm
            have hbw7 := Lib.hid (hbw6.out.trans (hb7.mono hbw6.out.size))
            have cr := refmay_any (hV6.out _ hb7) G
            have m0 := cell_then hb7 m0
            have m1 := cell_then hb7 m1
            clear hV6 hbw6 hb7 hr7
            go_wp2_with fail
            with_reducible refine Calls.mono cr ?_
            rintro e w8 ⟨r8, rfl, hr8, hb8⟩
            obtain rfl : r8 = 0 := hr8.one hmay.out
            have hfin := hbw7.out.trans (hb8.mono hbw7.out.size)
            clear cr hb8 hbw7 hr8 hmay
            go_wp2_with fail
            go_ret
            exact ⟨rfl, hfin⟩

set_option maxRecDepth 100000 in
theorem lifted (os : Os) (started : os.Started) (H : Type) (enc : TypeId × Value → H) :
    ReturnsInHanded {} Tryd.checked os 12 .any (fun w args => (Rows.codeBoundsSpec.pre enc Tryd.prog Tryd.f12 [] false w args ∧ laidMetH Tryd.prog [("treadmill/code.takes", Rows.laid_treadmill_code_takes)] w) ∧ sizedMet enc Tryd.prog Tryd.f12 (OpenSpec.ofChange Rows.codeBoundsSpec) false w args) (Rows.codeBoundsSpec.post enc Tryd.prog Tryd.f12 false true false false) := by
  refine returnsInHanded_of_change_and (C := Tryd.checked) (X := fun w _ => laidMetH Tryd.prog [("treadmill/code.takes", Rows.laid_treadmill_code_takes)] w) (fun _ _ _ hh h => h.of_heap hh) own started (by kernel_rfl) Tryd.func12
    (ChangeSpec.witness_shaped (enc := enc) (C := Tryd.checked) (os := os) (X := fun w _ => laidMetH Tryd.prog [("treadmill/code.takes", Rows.laid_treadmill_code_takes)] w) false (World.doorLaid Tryd.prog 400 os) #[.int .i64 0, .int .i64 0, .int .i64 0, .int .i64 0, .int .i64 0] 8 rfl (World.shaped_of_RefB (by kernel_rfl) (by kernel_rfl)) (by kernel_rfl) (by kernel_rfl) (by kernel_rfl) (door_met os _)) ?_
  intro W base args ds gs before hval0 hW _ _ hL _
  have hval : ∀ (j : Nat) t v, Tryd.f12.params[j]? = some t → args[j]? = some v → Value.okWide Tryd.prog W .any base t v := hval0
  have hW' := hW
  obtain ⟨p, q, hA0, hV, rfl, hfz, hnd⟩ := hW
  have hA : DataW.TrodAll enc Tryd.prog W 0 (fun _ => true) true Tryd.f12.params.toList args.toList ds p := hA0
  rw [Tryd.params12] at hA hval
  obtain ⟨v0, vs0, d0, ds0, p0, q0, hargs, rfl, rfl, h0, r0⟩ := trodAll_cons hA
  obtain ⟨v1, vs1, d1, ds1, p1, q1, rfl, rfl, rfl, h1, r1⟩ := trodAll_cons r0
  obtain ⟨v2, vs2, d2, ds2, p2, q2, rfl, rfl, rfl, h2, r2⟩ := trodAll_cons r1
  obtain ⟨v3, vs3, d3, ds3, p3, q3, rfl, rfl, rfl, h3, r3⟩ := trodAll_cons r2
  obtain ⟨v4, vs4, d4, ds4, p4, q4, rfl, rfl, rfl, h4, r4⟩ := trodAll_cons r3
  obtain ⟨rfl, rfl, rfl⟩ := trodAll_nil r4
  obtain rfl : args = #[v0, v1, v2, v3, v4] := by cases args; simp_all
  obtain ⟨rfl, rfl⟩ := trodVars_none hV
  obtain ⟨a0, rfl, rfl, rfl, w0⟩ := open_int Tryd.underlying3 (hval 0 3 v0 rfl rfl) h0
  obtain ⟨a1, rfl, rfl, rfl, w1⟩ := open_int Tryd.underlying3 (hval 1 3 v1 rfl rfl) h1
  obtain ⟨a2, rfl, rfl, rfl, w2⟩ := open_int Tryd.underlying3 (hval 2 3 v2 rfl rfl) h2
  obtain ⟨a3, rfl, rfl, rfl, w3⟩ := open_int Tryd.underlying3 (hval 3 3 v3 rfl rfl) h3
  obtain ⟨a4, rfl, rfl, rfl, w4⟩ := open_int Tryd.underlying3 (hval 4 3 v4 rfl rfl) h4
  clear hA0 hval0
  simp only [List.append_nil] at hW'
  refine (walk a0 a1 a2 a3 a4 W (tk_of_laid hL) w0 w1 w2 w3 w4).mono fun e W' ⟨he, hg⟩ => ?_
  subst he
  exact ⟨_, rfl, post_of_kept (pa := _) (pv := []) hW' (fun _ _ _ => (trodAll_cons_mk (shut_bool Tryd.underlying4 _) trodAll_mk0)) (trodAll_cons_mk (shut_int Tryd.underlying3 w0) (trodAll_cons_mk (shut_int Tryd.underlying3 w1) (trodAll_cons_mk (shut_int Tryd.underlying3 w2) (trodAll_cons_mk (shut_int Tryd.underlying3 w3) (trodAll_cons_mk (shut_int Tryd.underlying3 w4) trodAll_mk0))))) (fun _ _ => rfl) (by simp) hg⟩

theorem over : Rows.codeBoundsRow.holds Tryd.pinned (OpenSpec.ofChange Rows.codeBoundsSpec) :=
  OpenClaim.holds_of_wide 12 Tryd.f12 rfl rfl rfl rfl rfl rfl rfl ⟨rfl, rfl, rfl, rfl, rfl⟩ rfl rfl rfl rfl rfl (by kernel_rfl) Tryd.func12 (by kernel_rfl)
    (of_decide_eq_true (by kernel_rfl)) (by unfold Func.isWrapper; first | (rw [if_pos (by decide +kernel)]; kernel_rfl) | (rw [if_neg (by decide +kernel)]; exact ⟨rfl, rfl⟩))
    (fun os started H enc _ => lifted os started H enc)

theorem proved : Rows.CodeBoundsCardSaid :=
  Claim7.holds_tied_plain_at .later [] [.data] true Rows.codeBoundsCard.stood.harness true
    over (fun _ h => by cases h) (by kernel_rfl) (fun _ h => by cases h) codeBounds_row_tie rfl ⟨rfl, rfl⟩ (by kernel_rfl) rfl
    (fun f fn hf hfn => by
      obtain rfl : f = 12 := Option.some.inj ((show Tryd.prog.funcNamed "treadmill/treadmilllaw15.CodeBounds" = some 12 by kernel_rfl).symm.trans hf) |>.symm
      obtain rfl : fn = Tryd.f12 := (Option.some.inj (Tryd.func12.symm.trans hfn)).symm
      exact ⟨by kernel_rfl, fun j t ht => by
        rw [Tryd.params12] at ht
        have hm : t ∈ [3] := by simpa using Array.mem_of_getElem? ht
        have hall : ([3].all fun u => !Tryd.prog.wantsStandIn u) = true := by kernel_rfl
        exact (show Tryd.prog.wantsStandIn t = false by simpa using List.all_eq_true.1 hall t hm)⟩)
    (by kernel_rfl)
#print axioms proved
end Go.Proofs.YtbheabjemaaeoaaDoor.codeBounds
