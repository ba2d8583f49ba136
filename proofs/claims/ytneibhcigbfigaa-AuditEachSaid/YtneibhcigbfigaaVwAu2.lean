/- The rules of audit: objects, twice, work. -/
import Derived.Test.YtneibhcigbfigaaVwAu
namespace Go.Proofs.Ytneibhcigbfigaa
open Go.RowKit Go.Lib Fx Ho Gr
set_option linter.unusedVariables false
set_option linter.unusedSimpArgs false
namespace Vw
variable {w w' W : World} {vg vs vo : Value} {V : Vi} {gs : List Gor} {os : List Ob} {i g m : Nat} {ps p : Int}
/-- How many run on a P. -/
def cntR (gs : List Gor) (p : Int) : Nat := (gs.filter fun g => decide (g.1 = 2 ∧ g.2.1 = p)).length
theorem cntR_next (hi : i < gs.length) : cntR (gs.take (i + 1)) p = cntR (gs.take i) p + if (gs.getD i g0).1 = 2 ∧ (gs.getD i g0).2.1 = p then 1 else 0 := by
  unfold cntR
  rw [List.take_add_one, List.getElem?_eq_getElem hi, List.getD_eq_getElem?_getD, List.getElem?_eq_getElem hi, Option.toList_some, List.filter_append, List.length_append]
  show _ = _ + if (gs[i]).1 = 2 ∧ (gs[i]).2.1 = p then 1 else 0
  by_cases e : (gs[i]).1 = 2 ∧ (gs[i]).2.1 = p
  · rw [if_pos e, List.filter_cons_of_pos (by simpa using e)]; rfl
  · rw [if_neg e, List.filter_cons_of_neg (by simpa using e)]; rfl
theorem cntR_le : cntR (gs.take i) p ≤ cntR gs p := by
  unfold cntR
  exact ((List.take_sublist i gs).filter _).length_le
/-- Rule 3. -/
def Tw (V : Vi) : Prop := ∃ p, 1 < cntR V.gs p
/-- The map while it is filled. -/
structure Tz (B w : World) (mb i : Nat) (gs : List Gor) : Prop where
  bel : Below B.heap.size B w
  lo : B.heap.size ≤ mb
  map : ∃ c, Mp.OMap w mb i c ∧ ∀ p, (c p).getD 0 = (cntR (gs.take i) p : Int)
  one : ∀ p, cntR (gs.take i) p ≤ 1
theorem Tz.below {B : World} {mb : Nat} (h : Tz B w mb i gs) (hb : Below w.heap.size w w') : Tz B w' mb i gs := by
  obtain ⟨c, h1, h2⟩ := h.map
  exact ⟨h.bel.trans (hb.mono h.bel.size), h.lo, ⟨c, h1.below hb, h2⟩, h.one⟩
theorem Tz.look {B : World} {mb : Nat} (h : Tz B w mb i gs) {x : Int} (hx : WfI x) : (Instr.lookup 78 (.map (some mb)) (.int .i64 x) false).run Try.prog w = .ok (.int .i64 (cntR (gs.take i) x : Int)) w := by
  obtain ⟨c, h1, h2⟩ := h.map
  have := h1.look1 Try.underlying78 (zeroI w) hx
  rw [h2] at this
  exact this
/-- One that does not run. -/
theorem Tz.skip {B : World} {mb : Nat} (h : Tz B w mb i gs) (hi : i < gs.length) (hn : (gs.getD i g0).1 ≠ 2) : Tz B w mb (i + 1) gs := by
  have e : ∀ p, cntR (gs.take (i + 1)) p = cntR (gs.take i) p := fun p => by rw [cntR_next hi, if_neg (fun e => hn e.1)]; rfl
  obtain ⟨c, h1, h2⟩ := h.map
  exact ⟨h.bel, h.lo, ⟨c, h1.mono (Nat.le_succ i), fun p => by rw [e]; exact h2 p⟩, fun p => by rw [e]; exact h.one p⟩
/-- One that runs: the map counts it; either all run apart, or it is the second one. -/
theorem Tz.bump {B : World} {mb : Nat} (h : Tz B w mb i gs) (hi : i < gs.length) (hl : i ≤ 1000000) (hr : (gs.getD i g0).1 = 2) {x : Int} (hx : WfI x) (hP : (gs.getD i g0).2.1 = x) : ∃ w', (Instr.mapUpdate 78 (.map (some mb)) (.int .i64 x) (.int .i64 ((cntR (gs.take i) x : Int) + 1))).run Try.prog w = .ok () w' ∧ (Instr.lookup 78 (.map (some mb)) (.int .i64 x) false).run Try.prog w' = .ok (.int .i64 ((cntR (gs.take i) x : Int) + 1)) w' ∧ Wrote (fun k => k = mb) w (fun k => k = mb) w' ∧ Below B.heap.size B w' ∧ (cntR (gs.take i) x = 0 → Tz B w' mb (i + 1) gs) ∧ (cntR (gs.take i) x = 1 → ∃ p, 1 < cntR gs p) := by
  obtain ⟨c, h1, h2⟩ := h.map
  obtain ⟨w', r1, r2, r3⟩ := h1.store (t := 78) Try.underlying78 (by unfold maxLen; omega) hx ((cntR (gs.take i) x : Int) + 1)
  have e : ∀ p, cntR (gs.take (i + 1)) p = cntR (gs.take i) p + if x = p then 1 else 0 := fun p => by
    rw [cntR_next hi, hr, hP]
    by_cases e : x = p
    · rw [if_pos ⟨rfl, e⟩, if_pos e]
    · rw [if_neg (fun h => e h.2), if_neg e]
  have hb := below_w h.bel r3 (fun k e => by rw [e]; exact h.lo)
  have hc : ∀ p, (Mp.upo c x ((cntR (gs.take i) x : Int) + 1) p).getD 0 = (cntR (gs.take (i + 1)) p : Int) := fun p => by
    rw [e]
    unfold Mp.upo
    by_cases e2 : p = x
    · rw [if_pos e2, if_pos e2.symm, e2]; show (cntR (gs.take i) x : Int) + 1 = _; omega
    · rw [if_neg e2, if_neg (fun h => e2 h.symm), h2]; rfl
  refine ⟨w', r1, ?_, r3, hb, fun h0 => ⟨hb, h.lo, ⟨_, r2, hc⟩, fun p => ?_⟩, fun h1 => ⟨x, ?_⟩⟩
  · have := r2.look1 Try.underlying78 (zeroI w') hx
    rw [hc, e, if_pos rfl] at this
    exact this
  · rw [e]
    by_cases e2 : x = p
    · rw [if_pos e2, ← e2, h0]; omega
    · rw [if_neg e2]; exact h.one p
  · have := cntR_le (gs := gs) (i := i + 1) (p := x)
    rw [e, if_pos rfl, h1] at this
    omega
set_option maxRecDepth 100000 in
set_option maxHeartbeats 4000000 in
theorem twice_any (h : IsV w V vg vs vo) (hp : ∀ g ∈ V.gs, WfI g.2.1) (hl : V.gs.length ≤ 1000000) (ps : Int) : Calls Try.prog 93 #[vv V vg vs vo, .int .i64 ps] w (YesR w (Tw V)) := by
  have hmm := @run_makeMap Try.prog
  obtain ⟨W1, hW1⟩ : ∃ W1, w.alloc (.cells #[.int .i64 V.ph, .int .i64 V.cy, .int .i64 V.ck, vg, vs, vo, .int .i64 V.gr, .int .i64 V.nt, .int .i64 V.rt] 32) = W1 := ⟨_, rfl⟩
  have hb1 := below_alloc (Below.refl _ w) (.cells #[.int .i64 V.ph, .int .i64 V.cy, .int .i64 V.ck, vg, vs, vo, .int .i64 V.gr, .int .i64 V.nt, .int .i64 V.rt] 32)
  have k1 := heap_alloc_new w (.cells #[.int .i64 V.ph, .int .i64 V.cy, .int .i64 V.ck, vg, vs, vo, .int .i64 V.gr, .int .i64 V.nt, .int .i64 V.rt] 32)
  rw [hW1] at hb1 k1
  have h1 := h.below hb1
  obtain ⟨ss, cs, rfl, hmg, hgs⟩ := h1.gs
  obtain ⟨g, hg0⟩ : ∃ g, V.gs.length = g := ⟨_, rfl⟩
  have c4 : W1.cell? ⟨w.heap.size, 4, none⟩ = some (.slice ss V.gs.length cs) := cell_of k1 rfl
  have hgt : Hid (∀ W, Below W1.heap.size W1 W → ∀ i, i < g → ∃ b off sp2 p2, ss = some ⟨b, off, none⟩ ∧ W.cell? ⟨b, off + i * 3, none⟩ = some (.int .i64 (V.gs.getD i g0).1) ∧ W.cell? ⟨b, off + i * 3 + 1, none⟩ = some (.int .i64 (V.gs.getD i g0).2.1) ∧ W.cell? ⟨b, off + i * 3 + 2, none⟩ = some (.slice sp2 (V.gs.getD i g0).2.2.length p2)) := Lib.hid fun W hW i hi => by
    obtain ⟨b, off, sv, e1, _, e3, e4, e5, e6⟩ := hgs i (by omega)
    obtain ⟨sp2, p2, rfl, _⟩ := e6
    exact ⟨b, off, sp2, p2, e1, cell_then hW e3, cell_then hW e4, cell_then hW e5⟩
  have hfin : Hid (∀ W, Below W1.heap.size W1 W → Below w.heap.size w W) := Lib.hid fun W hW => hb1.trans (hW.mono hb1.size)
  have hz0 : Hid (Tz W1 (W1.alloc (.map #[] 0)) W1.heap.size 0 V.gs) := Lib.hid ⟨below_alloc (Below.refl _ W1) _, Nat.le_refl _, ⟨_, Mp.omade W1, fun p => by simp [cntR]⟩, fun p => by simp [cntR]⟩
  have c4b : (W1.alloc (.map #[] 0)).cell? ⟨w.heap.size, 4, none⟩ = some (.slice ss V.gs.length cs) := cell_then (below_alloc (Below.refl _ W1) _) c4
  have hend : Hid ((∀ p, cntR (V.gs.take g) p ≤ 1) → ¬ Tw V) := Lib.hid fun a ⟨p, e⟩ => by
    have := a p
    rw [List.take_of_length_le (by omega)] at this
    omega
  have hst : Hid (∀ W mb i, i < g → Tz W1 W mb i V.gs → (V.gs.getD i g0).1 ≠ 2 → Tz W1 W mb (i + 1) V.gs) := Lib.hid fun W mb i hi hz e => hz.skip (by omega) e
  have hbu : Hid (∀ W mb i, i < g → Tz W1 W mb i V.gs → (V.gs.getD i g0).1 = 2 → ∃ w', (Instr.mapUpdate 78 (.map (some mb)) (.int .i64 (V.gs.getD i g0).2.1) (.int .i64 ((cntR (V.gs.take i) (V.gs.getD i g0).2.1 : Int) + 1))).run Try.prog W = .ok () w' ∧ (Instr.lookup 78 (.map (some mb)) (.int .i64 (V.gs.getD i g0).2.1) false).run Try.prog w' = .ok (.int .i64 ((cntR (V.gs.take i) (V.gs.getD i g0).2.1 : Int) + 1)) w' ∧ Wrote (fun k => k = mb) W (fun k => k = mb) w' ∧ Below W1.heap.size W1 w' ∧ (cntR (V.gs.take i) (V.gs.getD i g0).2.1 = 0 → Tz W1 w' mb (i + 1) V.gs) ∧ (cntR (V.gs.take i) (V.gs.getD i g0).2.1 = 1 → Tw V)) := Lib.hid fun W mb i hi hz e => hz.bump (by omega) (by omega) e (hp _ (getD_mem g0 (by omega))) rfl
  have hwf : Hid (∀ i, i < g → WfI (V.gs.getD i g0).2.1) := Lib.hid fun i hi => hp _ (getD_mem g0 (by omega))
  clear hp hl
  unfold vv
  rw [hg0] at hmg c4 c4b
  rw [hg0] at hW1 ⊢
  clear h h1 k1 hb1 hgs hg0
  go_enter Try.func93, Try.ntmps93
  go_upto_region 1 with fail
  try rw [hW1]
  clear hW1
  obtain ⟨mb, hmb⟩ : ∃ mb, W1.heap.size = mb := ⟨_, rfl⟩
  have hlo : mb ≤ mb := Nat.le_refl _
  go_wp2_with fail
  rw [hmb] at hz0
  try rw [hmb]
  clear c4 c4b
  have hz0 := Lib.hid hz0.out
  go_loopw [4, 12] (fun u4 u wr => ∃ i : Nat, u = .int .i64 i ∧ i ≤ g ∧ Hid (Tz W1 wr mb i V.gs)) (fun _ u _ => (g - (RowKit.intOf u).toNat))
  case atStart => exact ⟨0, rfl, by omega, hz0⟩
  case round =>
    clear hz0
    obtain ⟨i, rfl, hi, hz⟩ := hrel
    have i0 : (0 : Int) ≤ (i : Int) := by omega
    by_cases hlt : i < g
    · have i2 : (i : Int) < (g : Int) := by omega
      obtain ⟨b, off, sp2, p2, rfl, e3, e4, e5⟩ := hgt.out wr hz.out.bel i hlt
      have hz2 : Hid (Tz W1 (wr.alloc (.cells #[.int .i64 (V.gs.getD i g0).1, .int .i64 (V.gs.getD i g0).2.1, .slice sp2 (V.gs.getD i g0).2.2.length p2] 26)) mb i V.gs) := Lib.hid (hz.out.below (below_alloc (Below.refl _ wr) _))
      obtain ⟨X, hX⟩ : ∃ X, wr.alloc (.cells #[.int .i64 (V.gs.getD i g0).1, .int .i64 (V.gs.getD i g0).2.1, .slice sp2 (V.gs.getD i g0).2.2.length p2] 26) = X := ⟨_, rfl⟩
      have kX := heap_alloc_new wr (.cells #[.int .i64 (V.gs.getD i g0).1, .int .i64 (V.gs.getD i g0).2.1, .slice sp2 (V.gs.getD i g0).2.2.length p2] 26)
      rw [hX] at hz2 kX
      obtain ⟨O, hO⟩ : ∃ O, wr.heap.size = O := ⟨_, rfl⟩
      rw [hO] at kX
      have hOm : O ≠ mb := by
        obtain ⟨c, h1, _⟩ := hz.out.map
        have := h1.lt
        omega
      have hwx := hwf.out i hlt
      have hsk := Lib.hid (hst.out X mb i hlt hz2.out)
      have hbp := Lib.hid (hbu.out X mb i hlt hz2.out)
      have hlk := hz2.out.look hwx
      have hone := hz2.out.one (V.gs.getD i g0).2.1
      have k0 : X.cell? ⟨O, 0, none⟩ = some (.int .i64 (V.gs.getD i g0).1) := cell_of kX rfl
      have k1 : X.cell? ⟨O, 1, none⟩ = some (.int .i64 (V.gs.getD i g0).2.1) := cell_of kX rfl
      have hbX := Lib.hid hz2.out.bel
      obtain ⟨n, hn⟩ : ∃ n, (V.gs.getD i g0).2.2.length = n := ⟨_, rfl⟩
      obtain ⟨st, hst⟩ : ∃ n, (V.gs.getD i g0).1 = n := ⟨_, rfl⟩
      obtain ⟨P, hP⟩ : ∃ n, (V.gs.getD i g0).2.1 = n := ⟨_, rfl⟩
      obtain ⟨cn, hcn⟩ : ∃ cn, cntR (V.gs.take i) P = cn := ⟨_, rfl⟩
      rw [hst] at e3
      rw [hP] at e4
      rw [hn] at e5
      rw [hst, hP, hn] at hX
      rw [hst] at hsk
      rw [hst, hP, hcn] at hbp
      rw [hP] at hwx
      rw [hP, hcn] at hlk hone
      rw [hst] at k0
      rw [hP] at k1
      clear hn hst hP hcn hz hz2 kX hgt
      by_cases s2 : st = 2
      · subst s2
        have hbp := hbp.out rfl
        obtain ⟨w6, r1, r2, r3, r4, r5, r6⟩ := hbp
        have k3 : w6.cell? ⟨O, 1, none⟩ = some (.int .i64 P) := r3.cell k1 hOm
        have r4 := Lib.hid r4
        clear r3 hsk
        by_cases hc0 : cn = 0
        · have r7 := Lib.hid (r5 hc0)
          rw [hc0] at hlk r1 r2
          rw [show ((0 : Nat) : Int) + 1 = 1 from rfl] at r1 r2
          rw [show ((0 : Nat) : Int) = 0 from rfl] at hlk
          clear r5 r6 hc0 hone
          go_upto_region 5 with fail
          try rw [hX]
          clear hX
          try rw [hO]
          clear hO
          go_wp2_with fail
          go_roundw
          case rel => exact ⟨i + 1, by go_num, by omega, r7⟩
          case measure => simp [RowKit.intOf]; omega
        · have hc1 : cn = 1 := by omega
          have r7 := Lib.hid (r6 hc1)
          rw [hc1] at hlk r1 r2
          rw [show ((1 : Nat) : Int) + 1 = 2 from rfl] at r1 r2
          rw [show ((1 : Nat) : Int) = 1 from rfl] at hlk
          clear r5 r6 hc0 hc1 hone
          go_upto_region 5 with fail
          try rw [hX]
          clear hX
          try rw [hO]
          clear hO
          go_wp2_with fail
          go_ret
          exact ⟨_, rfl, yes_t r7.out, hfin.out _ r4.out⟩
      · have s2b : (st == 2) = false := beq_eq_false_iff_ne.2 s2
        have r7 := Lib.hid (hsk.out s2)
        have e7 : ¬ ((1 : Int) < (cn : Int)) := by omega
        clear hsk hbp
        go_upto_region 5 with fail
        try rw [hX]
        clear hX
        try rw [hO]
        clear hO
        go_wp2_with fail
        go_roundw
        case rel => exact ⟨i + 1, by go_num, by omega, r7⟩
        case measure => simp [RowKit.intOf]; omega
    · obtain rfl : g = i := by omega
      have i2 : ¬ ((g : Int) < (g : Int)) := by omega
      have e8 := Lib.hid (hend.out hz.out.one)
      clear hend
      go_wp2_with fail
      go_ret
      exact ⟨_, rfl, yes_f e8.out, hfin.out _ hz.out.bel⟩
/-- Rule 5, one number of it. -/
def BadW (ph n : Int) : Prop := n < 0 ∨ 0 < n ∧ ph ≠ 1
def Wrk (V : Vi) : Prop := BadW V.ph V.gr ∨ BadW V.ph V.nt ∨ BadW V.ph V.rt
theorem ints3 {N : Nat} {a b c : Int} {t : TypeId} (k : W.heap[N]? = some (.cells #[.int .i64 a, .int .i64 b, .int .i64 c] t (0, 0))) : ∀ i, i < 3 → W.cell? ⟨N, i, none⟩ = some (.int .i64 ([a, b, c].getD i 0)) := fun i hi => by
  rcases (show i = 0 ∨ i = 1 ∨ i = 2 by omega) with rfl | rfl | rfl
  · exact cell_of k rfl
  · exact cell_of k rfl
  · exact cell_of k rfl
set_option maxRecDepth 100000 in
set_option maxHeartbeats 4000000 in
theorem work_any (h : IsV w V vg vs vo) (ps : Int) : Calls Try.prog 95 #[vv V vg vs vo, .int .i64 ps] w (YesR w (Wrk V)) := by
  obtain ⟨W1, hW1⟩ : ∃ W1, w.alloc (.cells #[.int .i64 V.ph, .int .i64 V.cy, .int .i64 V.ck, vg, vs, vo, .int .i64 V.gr, .int .i64 V.nt, .int .i64 V.rt] 32) = W1 := ⟨_, rfl⟩
  have hb1 := below_alloc (Below.refl _ w) (.cells #[.int .i64 V.ph, .int .i64 V.cy, .int .i64 V.ck, vg, vs, vo, .int .i64 V.gr, .int .i64 V.nt, .int .i64 V.rt] 32)
  have k1 := heap_alloc_new w (.cells #[.int .i64 V.ph, .int .i64 V.cy, .int .i64 V.ck, vg, vs, vo, .int .i64 V.gr, .int .i64 V.nt, .int .i64 V.rt] 32)
  rw [hW1] at hb1 k1
  have h1 := h.below hb1
  have hb2 := below_alloc (Below.refl _ W1) (.cells #[.int .i64 V.gr, .int .i64 V.nt, .int .i64 V.rt] 3)
  have k2 := heap_alloc_new W1 (.cells #[.int .i64 V.gr, .int .i64 V.nt, .int .i64 V.rt] 3)
  have c6 : W1.cell? ⟨w.heap.size, 6, none⟩ = some (.int .i64 V.gr) := cell_of k1 rfl
  have c7 : W1.cell? ⟨w.heap.size, 7, none⟩ = some (.int .i64 V.nt) := cell_of k1 rfl
  have c8 : W1.cell? ⟨w.heap.size, 8, none⟩ = some (.int .i64 V.rt) := cell_of k1 rfl
  have c0 : (W1.alloc (.cells #[.int .i64 V.gr, .int .i64 V.nt, .int .i64 V.rt] 3)).cell? ⟨w.heap.size, 0, none⟩ = some (.int .i64 V.ph) := cell_then hb2 (cell_of k1 rfl)
  have hat : Hid (∀ i, i < 3 → (W1.alloc (.cells #[.int .i64 V.gr, .int .i64 V.nt, .int .i64 V.rt] 3)).cell? ⟨W1.heap.size, i, none⟩ = some (.int .i64 ([V.gr, V.nt, V.rt].getD i 0))) := Lib.hid (ints3 k2)
  have hend : Hid ((∀ j, j < 3 → ¬ BadW V.ph ([V.gr, V.nt, V.rt].getD j 0)) → ¬ Wrk V) := Lib.hid fun a e => e.elim (a 0 (by omega)) fun e => e.elim (a 1 (by omega)) (a 2 (by omega))
  have hbad : Hid (∀ i, i < 3 → BadW V.ph ([V.gr, V.nt, V.rt].getD i 0) → Wrk V) := Lib.hid fun i hi e => by
    rcases (show i = 0 ∨ i = 1 ∨ i = 2 by omega) with rfl | rfl | rfl
    · exact .inl e
    · exact .inr (.inl e)
    · exact .inr (.inr e)
  have hfin : Hid (Below w.heap.size w (W1.alloc (.cells #[.int .i64 V.gr, .int .i64 V.nt, .int .i64 V.rt] 3))) := Lib.hid (hb1.trans (hb2.mono hb1.size))
  unfold vv
  clear h h1 k1 hb1 hb2 k2
  go_enter Try.func95, Try.ntmps95
  go_upto_region 1 with fail
  try rw [hW1]
  clear hW1
  go_wp2_with fail
  obtain ⟨U, hU⟩ : ∃ U, W1.alloc (.cells #[.int .i64 V.gr, .int .i64 V.nt, .int .i64 V.rt] 3) = U := ⟨_, rfl⟩
  rw [hU] at c0 hat hfin
  try rw [hU]
  clear hU c6 c7 c8
  go_loopw [4, 15] (fun u4 u wr => ∃ i : Nat, u = .int .i64 i ∧ i ≤ 3 ∧ Hid (∀ j, j < i → ¬ BadW V.ph ([V.gr, V.nt, V.rt].getD j 0)) ∧ wr = U) (fun _ u _ => (3 - (RowKit.intOf u).toNat))
  case atStart => exact ⟨0, rfl, by omega, Lib.hid fun j hj => absurd hj (by omega), rfl⟩
  case round =>
    obtain ⟨i, rfl, hi, hall, rfl⟩ := hrel
    have i0 : (0 : Int) ≤ (i : Int) := by omega
    by_cases hlt : i < 3
    · have i2 : (i : Int) < 3 := by omega
      have e3 := hat.out i hlt
      have hnx : Hid (¬ BadW V.ph ([V.gr, V.nt, V.rt].getD i 0) → ∀ j, j < i + 1 → ¬ BadW V.ph ([V.gr, V.nt, V.rt].getD j 0)) := Lib.hid fun h0 j hj => by
        by_cases e : j = i
        · rw [e]; exact h0
        · exact hall.out j (by omega)
      have hbd := Lib.hid (hbad.out i hlt)
      generalize [V.gr, V.nt, V.rt].getD i 0 = n at *
      clear hall
      by_cases n0 : n < 0
      · have n0b : decide (n < 0) = true := decide_eq_true n0
        have e8 := Lib.hid (hbd.out (.inl n0))
        clear hnx hbd
        go_wp2_with fail
        go_ret
        exact ⟨_, rfl, yes_t e8.out, hfin.out⟩
      · have n0b : decide (n < 0) = false := decide_eq_false n0
        by_cases n1 : 0 < n
        · have n1b : decide (0 < n) = true := decide_eq_true n1
          by_cases hp : V.ph = 1
          · have hpb : (V.ph == 1) = true := by rw [hp]; rfl
            have hpc : (V.ph != 1) = false := by rw [hp]; rfl
            have hnx2 := Lib.hid (hnx.out fun e => e.elim n0 fun e => e.2 hp)
            clear hnx hbd
            go_wp2_with fail
            go_roundw
            case rel => exact ⟨i + 1, by go_num, by omega, hnx2, by first | rfl | trivial⟩
            case measure => simp [RowKit.intOf]; omega
          · have hpb : (V.ph == 1) = false := beq_eq_false_iff_ne.2 hp
            have hpc : (V.ph != 1) = true := by unfold bne; rw [hpb]; rfl
            have e8 := Lib.hid (hbd.out (.inr ⟨n1, hp⟩))
            clear hnx hbd
            go_wp2_with fail
            go_ret
            exact ⟨_, rfl, yes_t e8.out, hfin.out⟩
        · have n1b : decide (0 < n) = false := decide_eq_false n1
          have hnx2 := Lib.hid (hnx.out fun e => e.elim n0 fun e => n1 e.1)
          clear hnx hbd
          go_wp2_with fail
          go_roundw
          case rel => exact ⟨i + 1, by go_num, by omega, hnx2, by first | rfl | trivial⟩
          case measure => simp [RowKit.intOf]; omega
    · obtain rfl : i = 3 := by omega
      have e8 := Lib.hid (hend.out hall.out)
      clear hend hall
      go_wp2_with fail
      go_ret
      exact ⟨_, rfl, yes_f e8.out, hfin.out⟩
end Vw
end Go.Proofs.Ytneibhcigbfigaa
