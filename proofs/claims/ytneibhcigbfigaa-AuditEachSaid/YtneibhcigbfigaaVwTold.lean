/- treadmilllaw29.told, its walk. -/
import Derived.Test.YtneibhcigbfigaaVwToldM
namespace Go.Proofs.Ytneibhcigbfigaa
open Go.RowKit Go.Lib Fx Ho Gr
set_option linter.unusedVariables false
set_option linter.unusedSimpArgs false
namespace Vw
variable {w w' W : World} {zs : List Int}
theorem al6 (w : World) (o1 o2 o3 o4 o5 o6 : Go.Obj) : ∃ U, ((((((w.alloc o1).alloc o2).alloc o3).alloc o4).alloc o5).alloc o6) = U ∧ U.heap[w.heap.size]? = some o1 ∧ U.heap[w.heap.size + 1]? = some o2 ∧ U.heap[w.heap.size + 1 + 1]? = some o3 ∧ U.heap[w.heap.size + 1 + 1 + 1]? = some o4 ∧ U.heap[w.heap.size + 1 + 1 + 1 + 1]? = some o5 ∧ U.heap[w.heap.size + 1 + 1 + 1 + 1 + 1]? = some o6 ∧ Below w.heap.size w U := by
  have s1 := s_alloc w o1
  have s2 := s_alloc (w.alloc o1) o2
  have s3 := s_alloc ((w.alloc o1).alloc o2) o3
  have s4 := s_alloc (((w.alloc o1).alloc o2).alloc o3) o4
  have s5 := s_alloc ((((w.alloc o1).alloc o2).alloc o3).alloc o4) o5
  have k1 := heap_alloc_new w o1
  have k2 := heap_alloc_new (w.alloc o1) o2
  have k3 := heap_alloc_new ((w.alloc o1).alloc o2) o3
  have k4 := heap_alloc_new (((w.alloc o1).alloc o2).alloc o3) o4
  have k5 := heap_alloc_new ((((w.alloc o1).alloc o2).alloc o3).alloc o4) o5
  have k6 := heap_alloc_new (((((w.alloc o1).alloc o2).alloc o3).alloc o4).alloc o5) o6
  rw [s1] at s2 k2
  rw [s2] at s3 k3
  rw [s3] at s4 k4
  rw [s4] at s5 k5
  rw [s5] at k6
  have b2 := below_alloc (Below.refl _ (w.alloc o1)) o2
  have b3 := below_alloc (Below.refl _ ((w.alloc o1).alloc o2)) o3
  have b4 := below_alloc (Below.refl _ (((w.alloc o1).alloc o2).alloc o3)) o4
  have b5 := below_alloc (Below.refl _ ((((w.alloc o1).alloc o2).alloc o3).alloc o4)) o5
  have b6 := below_alloc (Below.refl _ (((((w.alloc o1).alloc o2).alloc o3).alloc o4).alloc o5)) o6
  exact ⟨_, rfl, (b6.block _ (by omega)).trans ((b5.block _ (by omega)).trans ((b4.block _ (by omega)).trans ((b3.block _ (by omega)).trans ((b2.block _ (by omega)).trans k1)))),
    (b6.block _ (by omega)).trans ((b5.block _ (by omega)).trans ((b4.block _ (by omega)).trans ((b3.block _ (by omega)).trans k2))),
    (b6.block _ (by omega)).trans ((b5.block _ (by omega)).trans ((b4.block _ (by omega)).trans k3)),
    (b6.block _ (by omega)).trans ((b5.block _ (by omega)).trans k4), (b6.block _ (by omega)).trans k5, k6,
    below_alloc (below_alloc (below_alloc (below_alloc (below_alloc (below_alloc (Below.refl _ w) _) _) _) _) _) _⟩
theorem ints_lit {N n : Nat} {t : TypeId} (k : W.heap[N]? = some (.cells (cells zs).toArray t (0, 0))) (hn : zs.length = n) (hl : n ≤ 1000000) : Ints W Any (.slice (some ⟨N, 0, none⟩) n n) zs := by
  subst hn
  refine ⟨_, _, rfl, by omega, fun i hi => ⟨_, 0, rfl, trivial, block_lt k, ?_⟩⟩
  rw [Nat.zero_add]
  refine cell_of k ?_
  rw [List.getElem?_toArray]
  unfold cells
  rw [List.getElem?_map, List.getElem?_eq_getElem hi, List.getD_eq_getElem?_getD, List.getElem?_eq_getElem hi]; rfl
theorem three_cases {P : Nat → Prop} (h0 : P 0) (h1 : P 1) (h2 : P 2) : ∀ i, i < 3 → P i := fun i hi => by
  rcases (show i = 0 ∨ i = 1 ∨ i = 2 by omega) with rfl | rfl | rfl
  · exact h0
  · exact h1
  · exact h2
/-- The nine cells of a view in its box. -/
def Box9 (q : Nat) (V : Vi) (vg vs vo : Value) (W : World) : Prop := W.cell? ⟨q, 0, none⟩ = some (.int .i64 V.ph) ∧ W.cell? ⟨q, 1, none⟩ = some (.int .i64 V.cy) ∧ W.cell? ⟨q, 2, none⟩ = some (.int .i64 V.ck) ∧ W.cell? ⟨q, 3, none⟩ = some vg ∧ W.cell? ⟨q, 4, none⟩ = some vs ∧ W.cell? ⟨q, 5, none⟩ = some vo ∧ W.cell? ⟨q, 6, none⟩ = some (.int .i64 V.gr) ∧ W.cell? ⟨q, 7, none⟩ = some (.int .i64 V.nt) ∧ W.cell? ⟨q, 8, none⟩ = some (.int .i64 V.rt)
theorem box9_of {q : Nat} {V : Vi} {vg vs vo : Value} {t : TypeId} (k : W.heap[q]? = some (.cells #[.int .i64 V.ph, .int .i64 V.cy, .int .i64 V.ck, vg, vs, vo, .int .i64 V.gr, .int .i64 V.nt, .int .i64 V.rt] t (0, 0))) : Box9 q V vg vs vo W :=
  ⟨cell_of k rfl, cell_of k rfl, cell_of k rfl, cell_of k rfl, cell_of k rfl, cell_of k rfl, cell_of k rfl, cell_of k rfl, cell_of k rfl⟩
theorem Box9.below {q : Nat} {V : Vi} {vg vs vo : Value} (h : Box9 q V vg vs vo W) (hb : Below W.heap.size W w') : Box9 q V vg vs vo w' := by
  obtain ⟨h0, h1, h2, h3, h4, h5, h6, h7, h8⟩ := h
  exact ⟨cell_then hb h0, cell_then hb h1, cell_then hb h2, cell_then hb h3, cell_then hb h4, cell_then hb h5, cell_then hb h6, cell_then hb h7, cell_then hb h8⟩
theorem box9z {q : Nat} {vg vs vo : Value} (h : Box9 q VT vg vs vo W) : W.cell? ⟨q, 0, none⟩ = some (.int .i64 0) ∧ W.cell? ⟨q, 1, none⟩ = some (.int .i64 0) ∧ W.cell? ⟨q, 2, none⟩ = some (.int .i64 0) ∧ W.cell? ⟨q, 3, none⟩ = some vg ∧ W.cell? ⟨q, 4, none⟩ = some vs ∧ W.cell? ⟨q, 5, none⟩ = some vo ∧ W.cell? ⟨q, 6, none⟩ = some (.int .i64 0) ∧ W.cell? ⟨q, 7, none⟩ = some (.int .i64 0) ∧ W.cell? ⟨q, 8, none⟩ = some (.int .i64 0) := h
theorem vvz {f : FuncId} {vg vs vo : Value} {ex : Array Value} {R : Ending → World → Prop} (h : Calls Try.prog f (#[vv VT vg vs vo] ++ ex) W R) : Calls Try.prog f (#[.agg #[.int .i64 0, .int .i64 0, .int .i64 0, vg, vs, vo, .int .i64 0, .int .i64 0, .int .i64 0]] ++ ex) W R := h
set_option maxRecDepth 100000 in
set_option maxHeartbeats 4000000 in
theorem told_any (w : World) : Calls Try.prog 21 #[] w (AnsB (.bool true) w) := by
  obtain ⟨U, hU, k1, k2, k3, k4, k5, k6, hbU⟩ := al6 w (.cells #[.int .i64 64] 3) (.cells #[.int .i64 128, .int .i64 0] 3) (.cells #[.int .i64 256] 3) (.cells #[.int .i64 0] 3) (.cells #[.int .i64 64, .slice (some ⟨w.heap.size + 1, 0, none⟩) 2 2, .bool false, .int .i64 128, .slice (some ⟨w.heap.size + 1 + 1, 0, none⟩) 1 1, .bool true, .int .i64 192, .slice (some ⟨w.heap.size + 1 + 1 + 1, 0, none⟩) 1 1, .bool false] 29) (.cells #[.int .i64 0, .int .i64 0, .int .i64 0, .slice (some ⟨w.heap.size, 0, none⟩) 1 1, .slice none 0 0, .slice (some ⟨w.heap.size + 1 + 1 + 1 + 1, 0, none⟩) 3 3, .int .i64 0, .int .i64 0, .int .i64 0] 32)
  have hV : IsV U VT (.slice (some ⟨w.heap.size, 0, none⟩) 1 1) (.slice none 0 0) (.slice (some ⟨w.heap.size + 1 + 1 + 1 + 1, 0, none⟩) 3 3) := by
    refine ⟨ints_lit (zs := [64]) k1 rfl (by decide), ⟨none, 0, rfl, by decide, fun i hi => by simp [VT] at hi⟩, ⟨_, 3, rfl, by decide, ?_⟩, wfT⟩
    refine three_cases ⟨_, 0, _, rfl, block_lt k5, cell_of k5 rfl, cell_of k5 rfl, cell_of k5 rfl, ints_lit (zs := [128, 0]) k2 rfl (by decide)⟩ ⟨_, 0, _, rfl, block_lt k5, cell_of k5 rfl, cell_of k5 rfl, cell_of k5 rfl, ints_lit (zs := [256]) k3 rfl (by decide)⟩ ⟨_, 0, _, rfl, block_lt k5, cell_of k5 rfl, cell_of k5 rfl, cell_of k5 rfl, ints_lit (zs := [0]) k4 rfl (by decide)⟩
  have hBX : Hid (Box9 (w.heap.size + 1 + 1 + 1 + 1 + 1) VT (.slice (some ⟨w.heap.size, 0, none⟩) 1 1) (.slice none 0 0) (.slice (some ⟨w.heap.size + 1 + 1 + 1 + 1, 0, none⟩) 3 3) U) := Lib.hid (box9_of k6)
  replace hV := Lib.hid hV
  replace hbU := Lib.hid hbU
  replace hU := Lib.hid hU
  clear k1 k2 k3 k4 k5 k6
  go_enter Try.func21, Try.ntmps21
  go_upto_region 2 with fail
  rw [hU.out]
  clear hU
  obtain ⟨Q, hQ⟩ : ∃ Q, w.heap.size + 1 + 1 + 1 + 1 + 1 = Q := ⟨_, rfl⟩
  rw [hQ] at hBX
  try rw [hQ]
  clear hQ
  obtain ⟨vg, hvg⟩ : ∃ vg : Value, (.slice (some ⟨w.heap.size, 0, none⟩) 1 1) = vg := ⟨_, rfl⟩
  obtain ⟨vo, hvo⟩ : ∃ vo : Value, (.slice (some ⟨w.heap.size + 1 + 1 + 1 + 1, 0, none⟩) 3 3) = vo := ⟨_, rfl⟩
  rw [hvg, hvo] at hBX hV
  try rw [hvg]
  try rw [hvo]
  clear hvg hvo
  have hb0 : Hid (Below U.heap.size U U) := Lib.hid (Below.refl _ _)
  obtain ⟨g0, g1, g2, g3, g4, g5, g6, g7, g8⟩ := box9z (hBX.out.below hb0.out)
  have cc := vvz (ex := #[]) (viewReach_any (hV.out.below hb0.out) fwT)
  unfold ReachV at cc
  simp only [List.push_toArray, List.append_toArray, List.nil_append, List.cons_append, Array.append_empty] at cc
  go_wp2_with fail
  with_reducible refine Calls.mono cc ?_
  rintro e w1 ⟨v, ts, rfl, hts, hi, hb⟩
  obtain rfl := reachT hts
  have hq1 := hb0.out.trans (hb.mono hb0.out.size)
  have hb1b := Lib.hid (hq1.trans ((below_alloc (Below.refl _ w1) (.cells #[.int .i64 64, .int .i64 128] 3)).mono hq1.size))
  have ci := ints_any (hi.below (below_alloc (Below.refl _ w1) (.cells #[.int .i64 64, .int .i64 128] 3))) (lit_ints w1 [64, 128] 2 rfl (by decide))
  obtain ⟨sp, cp, rfl, -⟩ := hi
  clear cc hts hb hq1 g0 g1 g2 g3 g4 g5 g6 g7 g8
  go_wp2_with fail
  with_reducible refine Calls.mono ci ?_
  rintro e w1c ⟨rfl, m, rfl⟩
  obtain ⟨w1d, hw1d⟩ : ∃ W, (w1.alloc (.cells #[.int .i64 64, .int .i64 128] 3)).drewN m = W := ⟨_, rfl⟩
  have hb1 : Hid (Below U.heap.size U w1d) := Lib.hid (by rw [← hw1d]; exact hb1b.out.trans ((below_drewN (Below.refl _ _) m).mono hb1b.out.size))
  rw [hw1d]
  clear ci hw1d hb1b
  obtain ⟨g0, g1, g2, g3, g4, g5, g6, g7, g8⟩ := box9z (hBX.out.below hb1.out)
  have cc := vvz (ex := #[]) (viewWhite_any (hV.out.below hb1.out) fwT)
  unfold WhiteV at cc
  simp only [List.push_toArray, List.append_toArray, List.nil_append, List.cons_append, Array.append_empty] at cc
  go_wp2_with fail
  with_reducible refine Calls.mono cc ?_
  rintro e w2 ⟨v, ts, rfl, hts, hi, hb⟩
  obtain rfl := whiteT hts
  have hq1 := hb1.out.trans (hb.mono hb1.out.size)
  have hb2b := Lib.hid (hq1.trans ((below_alloc (Below.refl _ w2) (.cells #[.int .i64 64] 3)).mono hq1.size))
  have ci := ints_any (hi.below (below_alloc (Below.refl _ w2) (.cells #[.int .i64 64] 3))) (lit_ints w2 [64] 1 rfl (by decide))
  obtain ⟨sp, cp, rfl, -⟩ := hi
  clear cc hts hb hq1 g0 g1 g2 g3 g4 g5 g6 g7 g8
  go_wp2_with fail
  with_reducible refine Calls.mono ci ?_
  rintro e w2c ⟨rfl, m, rfl⟩
  obtain ⟨w2d, hw2d⟩ : ∃ W, (w2.alloc (.cells #[.int .i64 64] 3)).drewN m = W := ⟨_, rfl⟩
  have hb2 : Hid (Below U.heap.size U w2d) := Lib.hid (by rw [← hw2d]; exact hb2b.out.trans ((below_drewN (Below.refl _ _) m).mono hb2b.out.size))
  rw [hw2d]
  clear ci hw2d hb2b
  obtain ⟨g0, g1, g2, g3, g4, g5, g6, g7, g8⟩ := box9z (hBX.out.below hb2.out)
  have cc := vvz (ex := #[]) (viewLost_any (hV.out.below hb2.out) fwT)
  unfold LostV at cc
  simp only [List.push_toArray, List.append_toArray, List.nil_append, List.cons_append, Array.append_empty] at cc
  go_wp2_with fail
  with_reducible refine Calls.mono cc ?_
  rintro e w3 ⟨v, ts, rfl, hts, hi, hb⟩
  obtain rfl := lostT hts
  have hq1 := hb2.out.trans (hb.mono hb2.out.size)
  have hb3b := Lib.hid (hq1.trans ((below_alloc (Below.refl _ w3) (.cells #[.int .i64 256] 3)).mono hq1.size))
  have ci := ints_any (hi.below (below_alloc (Below.refl _ w3) (.cells #[.int .i64 256] 3))) (lit_ints w3 [256] 1 rfl (by decide))
  obtain ⟨sp, cp, rfl, -⟩ := hi
  clear cc hts hb hq1 g0 g1 g2 g3 g4 g5 g6 g7 g8
  go_wp2_with fail
  with_reducible refine Calls.mono ci ?_
  rintro e w3c ⟨rfl, m, rfl⟩
  obtain ⟨w3d, hw3d⟩ : ∃ W, (w3.alloc (.cells #[.int .i64 256] 3)).drewN m = W := ⟨_, rfl⟩
  have hb3 : Hid (Below U.heap.size U w3d) := Lib.hid (by rw [← hw3d]; exact hb3b.out.trans ((below_drewN (Below.refl _ _) m).mono hb3b.out.size))
  rw [hw3d]
  clear ci hw3d hb3b
  obtain ⟨g0, g1, g2, g3, g4, g5, g6, g7, g8⟩ := box9z (hBX.out.below hb3.out)
  have cc := vvz (ex := #[.int .i64 192]) (find_any (hV.out.below hb3.out) 192)
  rw [fndT] at cc
  simp only [List.push_toArray, List.append_toArray, List.nil_append, List.cons_append, Array.append_empty] at cc
  go_wp2_with fail
  with_reducible refine Calls.mono cc ?_
  rintro e w4 ⟨rfl, hb⟩
  have hb4 : Hid (Below U.heap.size U w4) := Lib.hid (hb3.out.trans (hb.mono hb3.out.size))
  clear cc hb g0 g1 g2 g3 g4 g5 g6 g7 g8
  obtain ⟨g0, g1, g2, g3, g4, g5, g6, g7, g8⟩ := box9z (hBX.out.below hb4.out)
  have cc := vvz (ex := #[]) (words_any (hV.out.below hb4.out) fwT)
  rw [wdsT] at cc
  simp only [List.push_toArray, List.append_toArray, List.nil_append, List.cons_append, Array.append_empty] at cc
  go_wp2_with fail
  with_reducible refine Calls.mono cc ?_
  rintro e w5 ⟨rfl, hb⟩
  have hb5 : Hid (Below U.heap.size U w5) := Lib.hid (hb4.out.trans (hb.mono hb4.out.size))
  clear cc hb g0 g1 g2 g3 g4 g5 g6 g7 g8
  obtain ⟨g0, g1, g2, g3, g4, g5, g6, g7, g8⟩ := box9z (hBX.out.below hb5.out)
  have cc := vvz (ex := #[.int .i64 128]) (path_any (hV.out.below hb5.out) fwT (x := 128) rfl)
  unfold PathV at cc
  simp only [List.push_toArray, List.append_toArray, List.nil_append, List.cons_append, Array.append_empty] at cc
  go_wp2_with fail
  with_reducible refine Calls.mono cc ?_
  rintro e w6 ⟨v, T, L, lost, i, pre, rfl, hF, hR, hi, hb⟩
  obtain rfl := pathT hF hR
  have hq1 := hb5.out.trans (hb.mono hb5.out.size)
  have hb6b := Lib.hid (hbU.out.trans ((hq1.trans ((below_alloc (Below.refl _ w6) (.cells #[.int .i64 64, .int .i64 128] 3)).mono hq1.size)).mono hbU.out.size))
  have ci := ints_any (hi.below (below_alloc (Below.refl _ w6) (.cells #[.int .i64 64, .int .i64 128] 3))) (lit_ints w6 [64, 128] 2 rfl (by decide))
  obtain ⟨sp, cp, rfl, -⟩ := hi
  clear cc hF hR hb hq1 g0 g1 g2 g3 g4 g5 g6 g7 g8
  go_wp2_with fail
  with_reducible refine Calls.mono ci ?_
  rintro e w6c ⟨rfl, m, rfl⟩
  have hfin := Lib.hid (below_drewN hb6b.out m)
  clear ci
  go_wp2_with fail
  go_ret
  exact ⟨rfl, hfin.out⟩
end Vw
end Go.Proofs.Ytneibhcigbfigaa
