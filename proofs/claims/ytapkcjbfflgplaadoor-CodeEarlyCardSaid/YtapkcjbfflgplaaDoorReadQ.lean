/- A script's reader: a program, told. -/
import Derived.Test.YtapkcjbfflgplaaDoorReadP
namespace Go.Proofs.YtapkcjbfflgplaaDoor
open Go.RowKit Go.Lib Fx Ho Gr
set_option linter.unusedVariables false
namespace Cd
variable {w w' W wr : World} {v fv : Value} {G nf len n : Int} {fs : List (List Ins)} {R p q j M N k : Nat} {zs : List Int} {L l : List Ins} {Bs : List Nat}
def EndR (w : World) (R : Nat) (v : Value) (zs : List Int) (p : Nat) (e : Ending) (w' : World) : Prop :=
  (p < zs.length ∧ Panics e ∧ Rd w' R v zs p ∧ Wrote (fun k => k = R) w (fun k => k = R) w') ∨ (¬ p < zs.length ∧ e = .returned (.tuple #[]) ∧ Rd w' R v zs p ∧ Wrote (fun k => k = R) w (fun k => k = R) w')
set_option maxRecDepth 100000 in
theorem end_any (h : Rd w R v zs p) : Calls Tryd.prog 95 #[.pointer (some ⟨R, 0, none⟩)] w (EndR w R v zs p) := by
  obtain ⟨sp, cap, rfl, hm, hc⟩ := id h.row
  have c0 : w.cell? ⟨R, 0, none⟩ = some (.slice sp zs.length cap) := cell_of h.head rfl
  have c1 : w.cell? ⟨R, 1, none⟩ = some (.int .i64 p) := cell_of h.head rfl
  have hno : Hid (∀ k, Rd (w.drewN k) R (.slice sp zs.length cap) zs p ∧ Wrote (fun k => k = R) w (fun k => k = R) (w.drewN k)) := Lib.hid fun k => have hU := below_drewN (Below.refl w.heap.size w) k; ⟨h.below hU, Wrote.of_below hU⟩
  obtain ⟨l, hl⟩ : ∃ l, zs.length = l := ⟨_, rfl⟩
  clear h hc
  unfold EndR
  rw [hl] at c0 hno ⊢
  clear hm
  by_cases hp : p < l
  · have e1 : (p : Int) < (l : Int) := by omega
    go_enter Tryd.func95, Tryd.ntmps95
    go_wp2_with fail
    go_quiet (fail)
    go_wp2_with fail
    exact ⟨rfl, .inl ⟨hp, ⟨(_, _), rfl⟩, (hno.out _).1, (hno.out _).2⟩⟩
  · have e1 : ¬ (p : Int) < (l : Int) := by omega
    go_enter Tryd.func95, Tryd.ntmps95
    go_wp2_with fail
    go_quiet (fail)
    go_wp2_with fail
    go_end0
    exact .inr ⟨hp, rfl, (hno.out _).1, (hno.out _).2⟩
/-- Between two functions: k have been read. -/
structure Pl (w wr : World) (R : Nat) (v : Value) (zs : List Int) (G nf : Int) (k N M : Nat) (fs : List (List Ins)) (Bs : List Nat) (fv : Value) (q : Nat) : Prop where
  ok : fsE zs G nf k = .ok (fs, q)
  rd : Rd wr R v zs q
  wrt : Wrote (fun k => k = R) w (fun k => k = R) wr
  blk : wr.heap[M]? = some (.cells #[.int .i64 G, fv] 49 (0, 0))
  res : wr.heap[N]? = some (.cells #[.int .i64 0, .slice none 0 0] 49 (0, 0))
  fw : Fw (N + 1) M wr fv fs Bs
  ord : R < N ∧ N < M ∧ w.heap.size ≤ N
theorem Pl.wrote (h : Pl w wr R v zs G nf k N M fs Bs fv q) (hb : Below wr.heap.size wr w') : Pl w w' R v zs G nf k N M fs Bs fv q :=
  ⟨h.ok, h.rd.below hb, h.wrt.trans (Wrote.of_below hb), (hb.block _ (block_lt h.blk)).trans h.blk, (hb.block _ (block_lt h.res)).trans h.res, h.fw.below hb, h.ord⟩
/-- A function is read. -/
structure Pm (w w1 : World) (R : Nat) (v : Value) (zs : List Int) (G nf : Int) (k N M : Nat) (fs : List (List Ins)) (Bs : List Nat) (fv : Value) (l : List Ins) (B q : Nat) : Prop where
  ok : fsE zs G nf (k + 1) = .ok (fs ++ [l], q)
  rd : Rd w1 R v zs q
  wrt : Wrote (fun k => k = R) w (fun k => k = R) w1
  blk : w1.heap[M]? = some (.cells #[.int .i64 G, fv] 49 (0, 0))
  res : w1.heap[N]? = some (.cells #[.int .i64 0, .slice none 0 0] 49 (0, 0))
  fw : Fw (N + 1) M w1 fv fs Bs
  ib : IBlk w1 B l ∧ l.length ≤ 64
  lo : M < B ∧ fv.ownBlock ≠ some B
  ord : R < N ∧ N < M ∧ w.heap.size ≤ N
theorem Pl.read {w1 : World} {B : Nat} (h : Pl w wr R v zs G nf k N M fs Bs fv q) (hf : fnE zs q G nf = .ok l) (hB : IBlk w1 B l) (hl : l.length ≤ 64) (hlo : wr.heap.size ≤ B) (hr : Rd w1 R v zs (q + 1 + 4 * l.length)) (hw : Wrote (fun k => k = R) wr (fun k => k = R) w1) : Pm w w1 R v zs G nf k N M fs Bs fv l B (q + 1 + 4 * l.length) := by
  obtain ⟨o1, o2, o3⟩ := h.ord
  refine ⟨?_, hr, h.wrt.trans hw, (hw.block _ (block_lt h.blk) (fun e => by have e : M = R := e; omega)).trans h.blk, (hw.block _ (block_lt h.res) (fun e => by have e : N = R := e; omega)).trans h.res, h.fw.wrote hw (fun k e => by have e : k = R := e; omega), ⟨hB, hl⟩, ⟨by have := block_lt h.blk; omega, fun e => by have := h.fw.row.lt e; omega⟩, h.ord⟩
  show (fsE zs G nf k).bind _ = _
  rw [h.ok]
  show (fnE zs q G nf).bind _ = _
  rw [hf]; rfl
theorem Pm.below {w1 : World} {B : Nat} (h : Pm w w1 R v zs G nf k N M fs Bs fv l B q) (hb : Below w1.heap.size w1 w') : Pm w w' R v zs G nf k N M fs Bs fv l B q :=
  ⟨h.ok, h.rd.below hb, h.wrt.trans (Wrote.of_below hb), (hb.block _ (block_lt h.blk)).trans h.blk, (hb.block _ (block_lt h.res)).trans h.res, h.fw.below hb, ⟨(hb.block _ (block_lt h.ib.1)).trans h.ib.1, h.ib.2⟩, h.lo, h.ord⟩
/-- The row that append makes, and the store behind it. -/
theorem Pm.stored {w1 w8 : World} {B : Nat} {v8 : Value} (h : Pm w w1 R v zs G nf k N M fs Bs fv l B q) (hg : GRow 1 w8 v8 (fs.length + 1) (hd Bs fs ++ [.slice (some ⟨B, 0, none⟩) l.length l.length])) (hw : Wrote (fun k => fv.ownBlock = some k) w1 (fun k => v8.ownBlock = some k) w8) : w8.cell? ⟨M, 0, none⟩ = some (.int .i64 G) ∧ w8.cell? ⟨M, 1, none⟩ = some fv ∧ w8.frozen? ⟨M, 1, none⟩ = false ∧ Hid ((w8.setCell ⟨M, 1, none⟩ v8).cell? ⟨M, 0, none⟩ = some (.int .i64 G) ∧ Pl w (w8.setCell ⟨M, 1, none⟩ v8) R v zs G nf (k + 1) N M (fs ++ [l]) (Bs ++ [B]) v8 q) := by
  obtain ⟨o1, o2, o3⟩ := h.ord
  have hM := block_lt h.blk
  have hf := h.fw.more h.ib.1 h.ib.2 (by have := h.lo.1; omega) (by have := h.lo.1; omega) h.lo.2 (by omega) hM hg hw
  have hno : ∀ k, fv.ownBlock = some k → k ≠ M ∧ N + 1 ≤ k := h.fw.fvs
  have hblk : w8.heap[M]? = _ := (hw.block M hM (fun e => (hno M e).1 rfl)).trans h.blk
  have hres : w8.heap[N]? = _ := (hw.block N (block_lt h.res) (fun e => by have := (hno N e).2; omega)).trans h.res
  have hrd : Rd w8 R v zs q := h.rd.wrote hw (fun e => by have := (hno R e).2; omega) (fun k e => by have := (hno k e).2; omega)
  have w2 : Wrote (fun k => k = M) w8 (fun k => k = M) (w8.setCell ⟨M, 1, none⟩ v8) := wrote_setCell (a := ⟨M, 1, none⟩) rfl rfl rfl rfl rfl
  have hw8 : Wrote (fun k => k = R) w (fun k => k = R) w8 := by
    refine ⟨hw.os.trans h.wrt.os, hw.tape.trans h.wrt.tape, hw.output.trans h.wrt.output, Nat.le_trans h.wrt.size hw.size, fun j hj hn => (hw.block j (Nat.lt_of_lt_of_le hj h.wrt.size) (fun e => by have := (hno j e).2; omega)).trans (h.wrt.block j hj hn), h.wrt.home⟩
  have hb2 : (w8.setCell ⟨M, 1, none⟩ v8).heap[M]? = some (.cells #[.int .i64 G, v8] 49 (0, 0)) := by rw [heap_setCell_same _ M 1 _ _ _ hblk]; rfl
  refine ⟨cell_of hblk rfl, cell_of hblk rfl, frozen_of_row _ _ _ _ _ hblk, Lib.hid ⟨cell_of hb2 rfl, h.ok, hrd.wrote w2 (fun e => by have e : R = M := e; omega) (fun k e => by have e : k = M := e; omega), wrote_new hw8 w2 (by omega), hb2, (w2.block N (block_lt hres) (fun e => by have e : N = M := e; omega)).trans hres, hf.wrote w2 (fun k e => .inl e), h.ord⟩⟩
def PgR (w : World) (R : Nat) (v : Value) (zs : List Int) (e : Ending) (w' : World) : Prop :=
  (∃ G fs fv q, progE zs = .ok (G, fs) ∧ e = .returned (.agg #[.int .i64 G, fv]) ∧ (∀ (V : World) (H H' : Home), Wrote H w' H' V → (∀ k, H k → k < w.heap.size) → FRow V fv fs) ∧ Rd w' R v zs q ∧ Wrote (fun k => k = R) w (fun k => k = R) w') ∨
  (∃ q, progE zs = .error q ∧ Panics e ∧ Rd w' R v zs q ∧ Wrote (fun k => k = R) w (fun k => k = R) w')
set_option maxRecDepth 100000 in
set_option maxHeartbeats 4000000 in
theorem program_any (hT : Tk w) (h : Rd w R v zs 0) (hR : 0 < R) : Calls Tryd.prog 61 #[.pointer (some ⟨R, 0, none⟩)] w (PgR w R v zs) := by
  have hRw : R < w.heap.size := block_lt h.head
  have hT0 : Hid (∀ V, Wrote (fun k => k = R) w (fun k => k = R) V → Tk V) := Lib.hid fun V hV => hT.wrote hV (fun e => by have e : 0 = R := e; omega)
  have hb1 := below_alloc (Below.refl w.heap.size w) (.cells #[.int .i64 0, .slice none 0 0] 49)
  have hN0 := heap_alloc_new w (.cells #[.int .i64 0, .slice none 0 0] 49)
  have cn := number_any (h.below hb1) 1 16
  obtain ⟨N, hN⟩ : ∃ N, w.heap.size = N := ⟨_, rfl⟩
  rw [hN] at hN0
  replace hb1 := Lib.hid hb1
  replace hN0 := Lib.hid hN0
  clear h hT
  go_enter Tryd.func61, Tryd.ntmps61
  go_wp2_with fail
  obtain ⟨U, hU⟩ : ∃ U, w.alloc (.cells #[.int .i64 0, .slice none 0 0] 49) = U := ⟨_, rfl⟩
  rw [hU] at hb1 hN0 cn ⊢
  clear hU
  with_reducible refine Calls.mono cn ?_
  rintro e w3 (⟨z, g1, rfl, g2, g3⟩ | ⟨g1, ⟨x, rfl⟩, g2, g3⟩)
  · obtain ⟨o0, o1, o2⟩ := num_ok g1
    obtain ⟨nf, rfl⟩ : ∃ nf : Nat, z = (nf : Int) := ⟨z.toNat, by omega⟩
    have cg := number_any g2 0 32
    have hs1 : Hid (progE zs = (num zs 1 0 32).bind fun G => (fsE zs G nf nf).bind fun r => if r.2 < zs.length then .error r.2 else .ok (G, r.1)) := Lib.hid (by unfold progE; rw [g1]; show (num zs 1 0 32).bind _ = _; simp)
    clear cn g1 g2
    replace g3 := Lib.hid g3
    go_wp2_with fail
    with_reducible refine Calls.mono cg ?_
    rintro e w4 (⟨G, g4, rfl, g5, g6⟩ | ⟨g4, ⟨x, rfl⟩, g5, g6⟩)
    · obtain ⟨p0, p1, p2⟩ := num_ok g4
      have hs2 : Hid (progE zs = (fsE zs G nf nf).bind fun r => if r.2 < zs.length then .error r.2 else .ok (G, r.1)) := Lib.hid (by rw [hs1.out, g4]; rfl)
      have hst : Hid (∀ V, V = w4.alloc (.cells #[.int .i64 G, .slice none 0 0] 49) → Pl w V R v zs G nf 0 N w4.heap.size [] [] (.slice none 0 0) 2) := Lib.hid fun V e => by
        subst e
        have hw4 := ((Wrote.of_below hb1.out (H := fun k => k = R)).trans g3.out).trans g6
        have hb4 := below_alloc (Below.refl w4.heap.size w4) (.cells #[.int .i64 G, .slice none 0 0] 49)
        have hN3 := (g3.out.block N (block_lt hN0.out) (fun e => by have e : N = R := e; omega)).trans hN0.out
        have hN4 := (g6.block N (block_lt hN3) (fun e => by have e : N = R := e; omega)).trans hN3
        exact ⟨rfl, g5.below hb4, hw4.trans (Wrote.of_below hb4), heap_alloc_new _ _, (hb4.block N (block_lt hN4)).trans hN4, ⟨rfl, grow_nil _ _, fun i hi => absurd hi (Nat.not_lt_zero _), fun B hB => (by cases hB), fun k hk => (by cases hk)⟩, by omega, block_lt hN4, by omega⟩
      clear cg hs1 g3 g4 g5 g6 hb1 hN0
      obtain ⟨M, hM⟩ : ∃ M, w4.heap.size = M := ⟨_, rfl⟩
      rw [hM] at hst
      go_wp2_with fail
      replace hst := Lib.hid (hst.out _ rfl)
      clear hM
      go_loopw [11] (fun u11 wr => ∃ k : Nat, u11 = .int .i64 k ∧ k ≤ nf ∧ Hid (∃ fs Bs fv q, Pl w wr R v zs G nf k N M fs Bs fv q)) (fun y _ => (nf - (RowKit.intOf y).toNat))
      case atStart => exact ⟨0, rfl, by omega, Lib.hid ⟨_, _, _, _, hst.out⟩⟩
      case round =>
        clear hst
        obtain ⟨k, rfl, kn, hP⟩ := hrel
        obtain ⟨fs, Bs, fv, q, hP⟩ := hP.out
        have k0 : (0 : Int) ≤ (k : Int) := by omega
        have c0 : wr.cell? ⟨M, 0, none⟩ = some (.int .i64 G) := cell_of hP.blk rfl
        have c1 : wr.cell? ⟨M, 1, none⟩ = some fv := cell_of hP.blk rfl
        have hPH := Lib.hid hP
        by_cases hk : k < nf
        · have k1 : (k : Int) < (nf : Int) := by omega
          clear hP
          go_wp2_with fail
          have hfs : fs.length + 1 ≤ 1000000 := by have := fsE_len k _ hPH.out.ok; simp only at this; omega
          have hbd : Below wr.heap.size wr wr.drew := (Below.refl _ _).drew
          have cf : Hid (∀ V, Below wr.heap.size wr V → Calls Tryd.prog 94 #[.pointer (some ⟨R, 0, none⟩), .int .i64 G, .int .i64 nf] V fun e V1 => (∃ l B q2, e = .returned (.slice (some ⟨B, 0, none⟩) l.length l.length) ∧ Pm w V1 R v zs G nf k N M fs Bs fv l B q2) ∨ (∃ q2, progE zs = .error q2 ∧ Panics e ∧ Rd V1 R v zs q2 ∧ Wrote (fun k => k = R) w (fun k => k = R) V1)) := Lib.hid fun V hV => by
            have hPV := hPH.out.wrote hV
            refine (function_any (hT0.out V hPV.wrt) hPV.rd hR (by omega) (by omega)).mono fun e V1 hh => ?_
            rcases hh with ⟨l, B, h1, h2, h3, h4, h5, h6, h7⟩ | ⟨q2, h1, h2, h3, h4⟩
            · exact .inl ⟨l, B, _, h2, hPV.read h1 h3 h4 h5 h6 h7⟩
            · refine .inr ⟨q2, ?_, h2, h3, hPV.wrt.trans h4⟩
              rw [hs2.out, fsE_err (k := k + 1) (q := q2) (by omega) ?_]
              · rfl
              · show (fsE zs G nf k).bind _ = _
                rw [hPH.out.ok]
                show (fnE zs q G nf).bind _ = _
                rw [h1]; rfl
          clear hPH
          refine wp_region_held_drew (S := fun V => V.cell? ⟨M, 0, none⟩ = some (.int .i64 G)) (by kernel_rfl) (by exact c0) (fun hHeld => ?_)
          try (refine wpAnyH_take (i := 0) rfl (by kernel_rfl) (by decide +kernel) (by decide +kernel) (fun _ _ _ h => h) (Or.inl ⟨by kernel_rfl, by (intro w hSw; (try dsimp only at hSw); go_simp; try with_reducible rfl)⟩) (by assumption) ?_; try simp only [Act.put, List.getElem_toArray, List.getElem_cons_zero, List.setIfInBounds_toArray, List.set_cons_zero, List.set_cons_succ])
          try (refine wpAnyH_take (i := 2) rfl (by kernel_rfl) (by decide +kernel) (by decide +kernel) (fun _ _ _ h => h) (Or.inl ⟨by kernel_rfl, by (intro w hSw; (try dsimp only at hSw); go_simp; try with_reducible rfl)⟩) (by assumption) ?_; try simp only [Act.put, List.getElem_toArray, List.getElem_cons_succ, List.getElem_cons_zero, List.setIfInBounds_toArray, List.set_cons_zero, List.set_cons_succ])
          try (refine wpAnyH_take (i := 3) rfl (by kernel_rfl) (by decide +kernel) (by decide +kernel) (fun _ _ _ h => h) (Or.inl ⟨by kernel_rfl, by (intro w hSw; (try dsimp only at hSw); go_simp; try with_reducible rfl)⟩) (by assumption) ?_; try simp only [Act.put, List.getElem_toArray, List.getElem_cons_succ, List.getElem_cons_zero, List.setIfInBounds_toArray, List.set_cons_zero, List.set_cons_succ])
          try (refine wpAnyH_take (i := 4) rfl (by kernel_rfl) (by decide +kernel) (by decide +kernel) (fun _ _ _ h => h) (Or.inl ⟨by kernel_rfl, by (intro w hSw; (try dsimp only at hSw); go_simp; try with_reducible rfl)⟩) (by assumption) ?_; try simp only [Act.put, List.getElem_toArray, List.getElem_cons_succ, List.getElem_cons_zero, List.setIfInBounds_toArray, List.set_cons_zero, List.set_cons_succ])
          try (refine wpAnyH_take (i := 5) rfl (by kernel_rfl) (by decide +kernel) (by decide +kernel) (fun _ _ _ h => h) (Or.inl ⟨by kernel_rfl, by (intro w hSw; (try dsimp only at hSw); go_simp; try with_reducible rfl)⟩) (by assumption) ?_; try simp only [Act.put, List.getElem_toArray, List.getElem_cons_succ, List.getElem_cons_zero, List.setIfInBounds_toArray, List.set_cons_zero, List.set_cons_succ])
          refine wpAnyH_ready (rs := [1, 6]) (by decide +kernel) (by simp) ?_
          refine AllReadyH.cons rfl (fun K hK => ?_) (AllReadyH.cons rfl (fun K hK => ?_) AllReadyH.nil)
          · skip
            go_simp
            refine hK.out _ _ (by exact c0) (fun hHeld => ?_)
            clear hK K
            try simp only [Act.put, List.getElem_toArray, List.getElem_cons_succ, List.getElem_cons_zero, List.setIfInBounds_toArray, List.set_cons_zero, List.set_cons_succ]
            refine wpAnyH_ready (rs := [6]) (by decide +kernel) (by simp) ?_
            refine AllReadyH.cons rfl (fun K hK => ?_) AllReadyH.nil
            go_simp
            go_at_call 94
            with_reducible refine (cf.out _ hbd).mono ?_
            rintro e w6 (⟨l, B, q2, rfl, hPm⟩ | ⟨q2, hE, ⟨x, rfl⟩, hR2, hw2⟩)
            · skip
              have m0 : w6.cell? ⟨M, 0, none⟩ = some (.int .i64 G) := cell_of hPm.blk rfl
              have m1 : w6.cell? ⟨M, 1, none⟩ = some fv := cell_of hPm.blk rfl
              have hrow6 := hPm.fw.row
              have hst6 : Hid (∀ v8 w8, GRow 1 w8 v8 (fs.length + 1) (hd Bs fs ++ [.slice (some ⟨B, 0, none⟩) l.length l.length]) → Wrote (fun k => fv.ownBlock = some k) (w6.alloc (.cells #[.slice (some ⟨B, 0, none⟩) l.length l.length] 30)) (fun k => v8.ownBlock = some k) w8 → w8.cell? ⟨M, 0, none⟩ = some (.int .i64 G) ∧ w8.cell? ⟨M, 1, none⟩ = some fv ∧ w8.frozen? ⟨M, 1, none⟩ = false ∧ Hid ((w8.setCell ⟨M, 1, none⟩ v8).cell? ⟨M, 0, none⟩ = some (.int .i64 G) ∧ Pl w (w8.setCell ⟨M, 1, none⟩ v8) R v zs G nf (k + 1) N M (fs ++ [l]) (Bs ++ [B]) v8 q2)) := Lib.hid fun v8 w8 g1 g2 => (hPm.below (below_alloc (Below.refl _ _) _)).stored g1 g2
              have a0 : (w6.alloc (.cells #[.slice (some ⟨B, 0, none⟩) l.length l.length] 30)).cell? ⟨M, 0, none⟩ = some (.int .i64 G) := cell_then (below_alloc (Below.refl _ _) _) m0
              have a1 : (w6.alloc (.cells #[.slice (some ⟨B, 0, none⟩) l.length l.length] 30)).cell? ⟨M, 1, none⟩ = some fv := cell_then (below_alloc (Below.refl _ _) _) m1
              clear hPm
              generalize l.length = ll at *
              refine hK.out _ _ (by exact m0) (fun hHeld => ?_)
              clear hK K
              try simp only [Act.put, List.getElem_toArray, List.getElem_cons_succ, List.getElem_cons_zero, List.setIfInBounds_toArray, List.set_cons_zero, List.set_cons_succ]
              refine wpAnyH_ready (rs := [7]) (by decide +kernel) (by simp) ?_
              refine AllReadyH.cons rfl (fun K hK => ?_) AllReadyH.nil
              go_simp
              refine hK.out _ _ (by exact a0) (fun hHeld => ?_)
              clear hK K
              try simp only [Act.put, List.getElem_toArray, List.getElem_cons_succ, List.getElem_cons_zero, List.setIfInBounds_toArray, List.set_cons_zero, List.set_cons_succ]
              refine wpAnyH_ready (rs := [8]) (by decide +kernel) (by simp) ?_
              refine AllReadyH.cons rfl (fun K hK => ?_) AllReadyH.nil
              refine step_append_g rfl (.tmp 14) (.tmp 20) rfl rfl eltFn (hrow6.below (below_alloc (Below.refl _ _) _)) rfl rfl (src_fn rfl (heap_alloc_new _ _)) hfs ?_
              intro v8 w8 g1 g2
              obtain ⟨s0, s1, s2, hnx⟩ := hst6.out v8 w8 g1 g2
              obtain ⟨sv8, cv8, rfl⟩ := g1.slice
              clear g1 g2 hst6 hrow6
              refine hK.out _ _ (by exact s0) (fun hHeld => ?_)
              clear hK K
              try simp only [Act.put, List.getElem_toArray, List.getElem_cons_succ, List.getElem_cons_zero, List.setIfInBounds_toArray, List.set_cons_zero, List.set_cons_succ]
              try (refine wpAnyH_take (i := 9) rfl (by kernel_rfl) (by decide +kernel) (by decide +kernel) (fun _ _ _ h => h) (Or.inl ⟨by kernel_rfl, by (intro w hSw; (try dsimp only at hSw); go_simp; try with_reducible rfl)⟩) (by assumption) ?_; try simp only [Act.put, List.getElem_toArray, List.getElem_cons_succ, List.getElem_cons_zero, List.setIfInBounds_toArray, List.set_cons_zero, List.set_cons_succ])
              refine wpAnyH_ready (rs := [10]) (by decide +kernel) (by simp) ?_
              refine AllReadyH.cons rfl (fun K hK => ?_) AllReadyH.nil
              go_simp
              refine hK.out _ _ (by exact hnx.out.1) (fun hHeld => ?_)
              clear hK K
              try simp only [Act.put, List.getElem_toArray, List.getElem_cons_succ, List.getElem_cons_zero, List.setIfInBounds_toArray, List.set_cons_zero, List.set_cons_succ]
              refine wpAnyH_done (by kernel_rfl) ?_ _
              clear s0 s1 s2 m0 m1 a0 a1
              go_wp2_with fail
              go_roundw
              case rel => exact ⟨k + 1, by go_num, by omega, Lib.hid ⟨_, _, _, _, hnx.out.2⟩⟩
              case measure => simp [RowKit.intOf]; omega
            · skip
              exact ⟨rfl, .inr ⟨q2, hE, ⟨x, rfl⟩, hR2, hw2⟩⟩
          · skip
            go_simp
            go_at_call 94
            with_reducible refine (cf.out _ hbd).mono ?_
            rintro e w6 (⟨l, B, q2, rfl, hPm⟩ | ⟨q2, hE, ⟨x, rfl⟩, hR2, hw2⟩)
            · skip
              have m0 : w6.cell? ⟨M, 0, none⟩ = some (.int .i64 G) := cell_of hPm.blk rfl
              have m1 : w6.cell? ⟨M, 1, none⟩ = some fv := cell_of hPm.blk rfl
              have hrow6 := hPm.fw.row
              have hst6 : Hid (∀ v8 w8, GRow 1 w8 v8 (fs.length + 1) (hd Bs fs ++ [.slice (some ⟨B, 0, none⟩) l.length l.length]) → Wrote (fun k => fv.ownBlock = some k) (w6.alloc (.cells #[.slice (some ⟨B, 0, none⟩) l.length l.length] 30)) (fun k => v8.ownBlock = some k) w8 → w8.cell? ⟨M, 0, none⟩ = some (.int .i64 G) ∧ w8.cell? ⟨M, 1, none⟩ = some fv ∧ w8.frozen? ⟨M, 1, none⟩ = false ∧ Hid ((w8.setCell ⟨M, 1, none⟩ v8).cell? ⟨M, 0, none⟩ = some (.int .i64 G) ∧ Pl w (w8.setCell ⟨M, 1, none⟩ v8) R v zs G nf (k + 1) N M (fs ++ [l]) (Bs ++ [B]) v8 q2)) := Lib.hid fun v8 w8 g1 g2 => (hPm.below (below_alloc (Below.refl _ _) _)).stored g1 g2
              have a0 : (w6.alloc (.cells #[.slice (some ⟨B, 0, none⟩) l.length l.length] 30)).cell? ⟨M, 0, none⟩ = some (.int .i64 G) := cell_then (below_alloc (Below.refl _ _) _) m0
              have a1 : (w6.alloc (.cells #[.slice (some ⟨B, 0, none⟩) l.length l.length] 30)).cell? ⟨M, 1, none⟩ = some fv := cell_then (below_alloc (Below.refl _ _) _) m1
              clear hPm
              generalize l.length = ll at *
              refine hK.out _ _ (by exact m0) (fun hHeld => ?_)
              clear hK K
              try simp only [Act.put, List.getElem_toArray, List.getElem_cons_succ, List.getElem_cons_zero, List.setIfInBounds_toArray, List.set_cons_zero, List.set_cons_succ]
              refine wpAnyH_ready (rs := [1, 7]) (by decide +kernel) (by simp) ?_
              refine AllReadyH.cons rfl (fun K hK => ?_) (AllReadyH.cons rfl (fun K hK => ?_) AllReadyH.nil)
              · skip
                go_simp
                refine hK.out _ _ (by exact m0) (fun hHeld => ?_)
                clear hK K
                try simp only [Act.put, List.getElem_toArray, List.getElem_cons_succ, List.getElem_cons_zero, List.setIfInBounds_toArray, List.set_cons_zero, List.set_cons_succ]
                refine wpAnyH_ready (rs := [7]) (by decide +kernel) (by simp) ?_
                refine AllReadyH.cons rfl (fun K hK => ?_) AllReadyH.nil
                go_simp
                refine hK.out _ _ (by exact a0) (fun hHeld => ?_)
                clear hK K
                try simp only [Act.put, List.getElem_toArray, List.getElem_cons_succ, List.getElem_cons_zero, List.setIfInBounds_toArray, List.set_cons_zero, List.set_cons_succ]
                refine wpAnyH_ready (rs := [8]) (by decide +kernel) (by simp) ?_
                refine AllReadyH.cons rfl (fun K hK => ?_) AllReadyH.nil
                refine step_append_g rfl (.tmp 14) (.tmp 20) rfl rfl eltFn (hrow6.below (below_alloc (Below.refl _ _) _)) rfl rfl (src_fn rfl (heap_alloc_new _ _)) hfs ?_
                intro v8 w8 g1 g2
                obtain ⟨s0, s1, s2, hnx⟩ := hst6.out v8 w8 g1 g2
                obtain ⟨sv8, cv8, rfl⟩ := g1.slice
                clear g1 g2 hst6 hrow6
                refine hK.out _ _ (by exact s0) (fun hHeld => ?_)
                clear hK K
                try simp only [Act.put, List.getElem_toArray, List.getElem_cons_succ, List.getElem_cons_zero, List.setIfInBounds_toArray, List.set_cons_zero, List.set_cons_succ]
                try (refine wpAnyH_take (i := 9) rfl (by kernel_rfl) (by decide +kernel) (by decide +kernel) (fun _ _ _ h => h) (Or.inl ⟨by kernel_rfl, by (intro w hSw; (try dsimp only at hSw); go_simp; try with_reducible rfl)⟩) (by assumption) ?_; try simp only [Act.put, List.getElem_toArray, List.getElem_cons_succ, List.getElem_cons_zero, List.setIfInBounds_toArray, List.set_cons_zero, List.set_cons_succ])
                refine wpAnyH_ready (rs := [10]) (by decide +kernel) (by simp) ?_
                refine AllReadyH.cons rfl (fun K hK => ?_) AllReadyH.nil
                go_simp
                refine hK.out _ _ (by exact hnx.out.1) (fun hHeld => ?_)
                clear hK K
                try simp only [Act.put, List.getElem_toArray, List.getElem_cons_succ, List.getElem_cons_zero, List.setIfInBounds_toArray, List.set_cons_zero, List.set_cons_succ]
                refine wpAnyH_done (by kernel_rfl) ?_ _
                clear s0 s1 s2 m0 m1 a0 a1
                go_wp2_with fail
                go_roundw
                case rel => exact ⟨k + 1, by go_num, by omega, Lib.hid ⟨_, _, _, _, hnx.out.2⟩⟩
                case measure => simp [RowKit.intOf]; omega
              · skip
                go_simp
                refine hK.out _ _ (by exact a0) (fun hHeld => ?_)
                clear hK K
                try simp only [Act.put, List.getElem_toArray, List.getElem_cons_succ, List.getElem_cons_zero, List.setIfInBounds_toArray, List.set_cons_zero, List.set_cons_succ]
                refine wpAnyH_ready (rs := [1]) (by decide +kernel) (by simp) ?_
                refine AllReadyH.cons rfl (fun K hK => ?_) AllReadyH.nil
                go_simp
                refine hK.out _ _ (by exact a0) (fun hHeld => ?_)
                clear hK K
                try simp only [Act.put, List.getElem_toArray, List.getElem_cons_succ, List.getElem_cons_zero, List.setIfInBounds_toArray, List.set_cons_zero, List.set_cons_succ]
                refine wpAnyH_ready (rs := [8]) (by decide +kernel) (by simp) ?_
                refine AllReadyH.cons rfl (fun K hK => ?_) AllReadyH.nil
                refine step_append_g rfl (.tmp 14) (.tmp 20) rfl rfl eltFn (hrow6.below (below_alloc (Below.refl _ _) _)) rfl rfl (src_fn rfl (heap_alloc_new _ _)) hfs ?_
                intro v8 w8 g1 g2
                obtain ⟨s0, s1, s2, hnx⟩ := hst6.out v8 w8 g1 g2
                obtain ⟨sv8, cv8, rfl⟩ := g1.slice
                clear g1 g2 hst6 hrow6
                refine hK.out _ _ (by exact s0) (fun hHeld => ?_)
                clear hK K
                try simp only [Act.put, List.getElem_toArray, List.getElem_cons_succ, List.getElem_cons_zero, List.setIfInBounds_toArray, List.set_cons_zero, List.set_cons_succ]
                try (refine wpAnyH_take (i := 9) rfl (by kernel_rfl) (by decide +kernel) (by decide +kernel) (fun _ _ _ h => h) (Or.inl ⟨by kernel_rfl, by (intro w hSw; (try dsimp only at hSw); go_simp; try with_reducible rfl)⟩) (by assumption) ?_; try simp only [Act.put, List.getElem_toArray, List.getElem_cons_succ, List.getElem_cons_zero, List.setIfInBounds_toArray, List.set_cons_zero, List.set_cons_succ])
                refine wpAnyH_ready (rs := [10]) (by decide +kernel) (by simp) ?_
                refine AllReadyH.cons rfl (fun K hK => ?_) AllReadyH.nil
                go_simp
                refine hK.out _ _ (by exact hnx.out.1) (fun hHeld => ?_)
                clear hK K
                try simp only [Act.put, List.getElem_toArray, List.getElem_cons_succ, List.getElem_cons_zero, List.setIfInBounds_toArray, List.set_cons_zero, List.set_cons_succ]
                refine wpAnyH_done (by kernel_rfl) ?_ _
                clear s0 s1 s2 m0 m1 a0 a1
                go_wp2_with fail
                go_roundw
                case rel => exact ⟨k + 1, by go_num, by omega, Lib.hid ⟨_, _, _, _, hnx.out.2⟩⟩
                case measure => simp [RowKit.intOf]; omega
            · skip
              exact ⟨rfl, .inr ⟨q2, hE, ⟨x, rfl⟩, hR2, hw2⟩⟩
        · obtain rfl : k = nf := by omega
          have k1 : ¬ (k : Int) < (k : Int) := by omega
          have ce := end_any hP.rd
          clear hP
          go_wp2_with fail
          with_reducible refine Calls.mono ce ?_
          rintro e w5 (⟨hq, ⟨x, rfl⟩, g2, g3⟩ | ⟨hq, rfl, g2, g3⟩)
          · exact ⟨rfl, .inr ⟨q, by rw [hs2.out, hPH.out.ok]; show (if q < zs.length then Except.error q else Except.ok (G, fs)) = _; rw [if_pos hq], ⟨x, rfl⟩, g2, hPH.out.wrt.trans g3⟩⟩
          · obtain ⟨o1, o2, o3⟩ := hPH.out.ord
            have hM5 : w5.heap[M]? = _ := (g3.block M (block_lt hPH.out.blk) (fun e => by have e : M = R := e; omega)).trans hPH.out.blk
            have hN5 : w5.heap[N]? = _ := (g3.block N (block_lt hPH.out.res) (fun e => by have e : N = R := e; omega)).trans hPH.out.res
            have d0 : w5.cell? ⟨M, 0, none⟩ = some (.int .i64 G) := cell_of hM5 rfl
            have d1 : w5.cell? ⟨M, 1, none⟩ = some fv := cell_of hM5 rfl
            have e0 : w5.cell? ⟨N, 0, none⟩ = some (.int .i64 0) := cell_of hN5 rfl
            have e1 : w5.cell? ⟨N, 1, none⟩ = some (.slice none 0 0) := cell_of hN5 rfl
            have f0 := frozen_of_row _ _ 0 _ _ hN5
            have f1 := frozen_of_row _ _ 1 _ _ hN5
            have w1 : ∀ (U : World) (j : Nat) (u : Value), Wrote (fun k => k = N) U (fun k => k = N) (U.setCell ⟨N, j, none⟩ u) := fun U j u => wrote_setCell (a := ⟨N, j, none⟩) rfl rfl rfl rfl rfl
            have g4 := (w1 w5 0 (.int .i64 G)).trans (w1 _ 1 fv)
            have hr : ((w5.setCell ⟨N, 0, none⟩ (.int .i64 G)).setCell ⟨N, 1, none⟩ fv).heap[N]? = some (.cells #[.int .i64 G, fv] 49 (0, 0)) := by
              have h0 := heap_setCell_same w5 N 0 _ _ (.int .i64 G) hN5
              have h1 := heap_setCell_same _ N 1 _ _ fv h0
              exact h1
            have hfl := fsE_len _ _ hPH.out.ok
            have hF5 := (hPH.out.fw.wrote g3 (fun k e => .inr (by have e : k = R := e; omega))).wrote g4 (fun k e => .inr (by have e : k = N := e; omega))
            have hfin : Hid (PgR w R v zs (.returned (.agg #[.int .i64 G, fv])) ((w5.setCell ⟨N, 0, none⟩ (.int .i64 G)).setCell ⟨N, 1, none⟩ fv)) := Lib.hid (.inl ⟨G, fs, fv, q, by rw [hs2.out, hPH.out.ok]; show (if q < zs.length then Except.error q else Except.ok (G, fs)) = _; rw [if_neg hq], rfl, fun V H H' hW hH => (hF5.wrote hW (fun k hk => .inr (by have := hH k hk; omega))).frow (by simp only at hfl; omega), g2.wrote g4 (fun e => by have e : R = N := e; omega) (fun k e => by have e : k = N := e; omega), wrote_new (hPH.out.wrt.trans g3) g4 (by omega)⟩)
            obtain ⟨sv, cv, rfl⟩ := hPH.out.fw.row.slice
            clear ce g2 g3 g4 hM5 hN5 hPH hF5 w1 hfl
            go_wp2_with fail
            refine bodyPost_ret (results_cell_row (by rfl) _ _ N 49 _ (0, 0) _ rfl hr Tryd.underlying49 rfl (by kernel_rfl)) rfl ?_
            exact hfin.out
    · exact ⟨rfl, .inr ⟨1, by rw [hs1.out, g4]; rfl, ⟨x, rfl⟩, g5, ((Wrote.of_below hb1.out).trans g3.out).trans g6⟩⟩
  · exact ⟨rfl, .inr ⟨0, by unfold progE; rw [g1]; rfl, ⟨x, rfl⟩, g2, (Wrote.of_below hb1.out).trans g3⟩⟩
end Cd
end Go.Proofs.YtapkcjbfflgplaaDoor
