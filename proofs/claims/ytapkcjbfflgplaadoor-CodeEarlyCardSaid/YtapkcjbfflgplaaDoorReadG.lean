/- A script's reader: a function, told. -/
import Derived.Test.YtapkcjbfflgplaaDoorReadF
namespace Go.Proofs.YtapkcjbfflgplaaDoor
open Go.RowKit Go.Lib Fx Ho
set_option linter.unusedVariables false
namespace Cd
variable {w w' W : World} {v fv : Value} {G nf len n : Int} {fs : List (List Ins)} {R p q j : Nat} {zs : List Int} {L : List Ins}
/-- Between two rounds: j instructions have been read into the block B; the bounds lie in K. -/
structure Rl (w wr : World) (R : Nat) (v : Value) (zs : List Int) (p : Nat) (G nf : Int) (n j B K : Nat) (L : List Ins) : Prop where
  rd : Rd wr R v zs (p + 1 + 4 * j)
  wrt : Wrote (fun k => k = R) w (fun k => k = R) wr
  ok : insE zs (p + 1) G nf n j = .ok L
  blk : IBlk wr B (L ++ List.replicate (n - j) zi)
  bnd : wr.heap[K]? = some (.cells #[.int .i64 1, .int .i64 256, .int .i64 16, .int .i64 G, .int .i64 nf, .int .i64 n, .int .i64 32] 130 (0, 0))
  lo : w.heap.size ≤ B ∧ w.heap.size ≤ K ∧ B ≠ K
theorem list_set {α : Type} (A : List α) (x y : α) (m : Nat) : (A ++ List.replicate (m + 1) x).set A.length y = (A ++ [y]) ++ List.replicate m x := by
  rw [List.set_append_right _ _ (Nat.le_refl _), Nat.sub_self, List.append_assoc]
  rfl
/-- An instruction is read and stored: what stands behind. -/
theorem Rl.next {wr w1 : World} {B K n : Nat} {x : Ins} (h : Rl w wr R v zs p G nf n j B K L) (hR : R < w.heap.size) (hj : j < n) (hx : instE zs (p + 1 + 4 * j) G nf n = .ok x) (h1 : Rd w1 R v zs (p + 1 + 4 * j + 4)) (hw : Wrote (fun k => k = R) wr (fun k => k = R) w1) : IBlk w1 B (L ++ List.replicate (n - j) zi) ∧ Hid (Rl w ((((w1.setCell ⟨B, j * 4, none⟩ (.int .i64 x.1)).setCell ⟨B, j * 4 + 1, none⟩ (.int .i64 x.2.1)).setCell ⟨B, j * 4 + 2, none⟩ (.int .i64 x.2.2.1)).setCell ⟨B, j * 4 + 3, none⟩ (.int .i64 x.2.2.2)) R v zs p G nf n (j + 1) B K (L ++ [x])) := by
  have hl := insE_len j L h.ok
  obtain ⟨l1, l2, l3⟩ := h.lo
  have hB : IBlk w1 B (L ++ List.replicate (n - j) zi) := (hw.block B (block_lt h.blk) (fun e => by have e : B = R := e; omega)).trans h.blk
  have hK := (hw.block K (block_lt h.bnd) (fun e => by have e : K = R := e; omega)).trans h.bnd
  obtain ⟨g1, g2⟩ := hB.set j x
  refine ⟨hB, Lib.hid ⟨?_, wrote_new (h.wrt.trans hw) g2 l1, ?_, ?_, (g2.block K (block_lt hK) (fun e => l3 (show K = B from e).symm)).trans hK, h.lo⟩⟩
  · have := h1.wrote g2 (fun e => by have e : R = B := e; omega) (fun k e => by have e : k = B := e; omega)
    rwa [show p + 1 + 4 * j + 4 = p + 1 + 4 * (j + 1) by omega] at this
  · show (insE zs (p + 1) G nf n j).bind _ = _
    rw [h.ok]
    show (instE zs (p + 1 + 4 * j) G nf n).bind _ = _
    rw [hx]; rfl
  · have e : n - j = (n - (j + 1)) + 1 := by omega
    rw [e, ← hl, list_set] at g1
    rw [← hl]; exact g1
set_option maxRecDepth 100000 in
set_option maxHeartbeats 4000000 in
theorem function_any (hT : Tk w) (h : Rd w R v zs p) (hR : 0 < R) (h1 : 0 ≤ G ∧ G ≤ 1000000) (h2 : 0 ≤ nf ∧ nf ≤ 1000000) : Calls Tryd.prog 94 #[.pointer (some ⟨R, 0, none⟩), .int .i64 G, .int .i64 nf] w (FnR w R v zs p G nf) := by
  have cn := number_any h 1 64
  obtain ⟨ti, hi, hz0, hz1, hz2⟩ := info_parts infoInst
  have hRw : R < w.heap.size := block_lt h.head
  have hT0 : Hid (∀ V, Wrote (fun k => k = R) w (fun k => k = R) V → Tk V) := Lib.hid fun V hV => hT.wrote hV (fun e => by have e : 0 = R := e; omega)
  clear h hT
  go_enter Tryd.func94, Tryd.ntmps94
  go_wp2_with fail
  with_reducible refine Calls.mono cn ?_
  rintro e w3 (⟨z, g1, rfl, g2, g3⟩ | ⟨g1, ⟨x, rfl⟩, g2, g3⟩)
  · obtain ⟨o0, o1, o2⟩ := num_ok g1
    obtain ⟨n, rfl⟩ : ∃ n : Nat, z = (n : Int) := ⟨z.toNat, by omega⟩
    have hfn : Hid (fnE zs p G nf = insE zs (p + 1) G nf n n) := Lib.hid (by unfold fnE; rw [g1]; show insE zs (p + 1) G nf n (n : Int).toNat = _; rw [Int.toNat_natCast])
    have key : Hid (∀ w1, w1.ownsRow w3.heap.size 29 4 (.slice (some ⟨w3.heap.size, 0, none⟩) n n) n (madeCells (Value.agg #[.int .i64 0, .int .i64 0, .int .i64 0, .int .i64 0]).cells (n * 4)).toList → w3.grownBy w1 none → IBlk w1 w3.heap.size (List.replicate n zi) ∧ Below w3.heap.size w3 w1) := Lib.hid fun w1 ho hg => ⟨full_ins (cap := 0) ho, Below.grown (Below.refl _ _) hg (Nat.le_refl _) (fun k hk => by cases hk)⟩
    clear cn g1
    replace g2 := Lib.hid g2
    replace g3 := Lib.hid g3
    obtain ⟨B, hB⟩ : ∃ B, w3.heap.size = B := ⟨_, rfl⟩
    go_wp2_with (refine wpList_make_full _ rfl _ _ 30 rfl w3.heap.size 29 ti (.agg #[.int .i64 0, .int .i64 0, .int .i64 0, .int .i64 0]) 4 Tryd.underlying30 hi hz0 hz1 .i64 .i64 _ _ n rfl rfl rfl rfl (by rw [hz2]; omega) (by unfold maxLen; omega) (Nat.le_refl _) ?_; intro w4 hown1 hgrow1; obtain ⟨k1, k2⟩ := key.out w4 hown1 hgrow1; clear hown1 hgrow1 key)
    have cw := within_any G nf (n : Int) w4
    unfold bv at cw
    go_wp2_with fail
    with_reducible refine Calls.mono cw ?_
    rintro e w5 ⟨rfl, hb5⟩
    clear cw
    have hs3 := g3.out.size
    have hst : Hid (∀ U, U = w5.alloc (.cells #[.int .i64 1, .int .i64 256, .int .i64 16, .int .i64 G, .int .i64 nf, .int .i64 n, .int .i64 32] 130) → Rl w U R v zs p G nf n 0 B w5.heap.size []) := Lib.hid fun U e => by
      subst e
      have hbA := k2.trans (hb5.mono k2.size)
      have hbB := below_alloc hbA (.cells #[.int .i64 1, .int .i64 256, .int .i64 16, .int .i64 G, .int .i64 nf, .int .i64 n, .int .i64 32] 130)
      have hBl : B < w5.heap.size := by have := block_lt k1; have := hb5.size; omega
      refine ⟨g2.out.below hbB, g3.out.trans (Wrote.of_below hbB), rfl, ?_, heap_alloc_new _ _, by omega, by omega, by omega⟩
      rw [List.nil_append, Nat.sub_zero]
      rw [hB] at k1
      exact (((below_alloc (Below.refl w5.heap.size w5) _).block B hBl).trans (hb5.block B (block_lt k1))).trans k1
    clear g2 g3 k1 k2 hb5 hs3
    obtain ⟨K, hK⟩ : ∃ K, w5.heap.size = K := ⟨_, rfl⟩
    rw [hK] at hst
    go_wp2_with fail
    replace hst := Lib.hid (hst.out _ rfl)
    clear hB hK
    go_loopw [9, 20] (fun u9 u20 wr => ∃ j : Nat, u20 = .int .i64 j ∧ j ≤ n ∧ Hid (∃ L, Rl w wr R v zs p G nf n j B K L)) (fun _ y _ => (n - (RowKit.intOf y).toNat))
    case atStart => exact ⟨0, rfl, by omega, Lib.hid ⟨[], hst.out⟩⟩
    case round =>
      clear hst
      obtain ⟨j, rfl, jn, hL⟩ := hrel
      obtain ⟨L, hL⟩ := hL.out
      have j0 : (0 : Int) ≤ (j : Int) := by omega
      by_cases hj : j < n
      · have j1 : (j : Int) < (n : Int) := by omega
        have ci := inst_any (G := G) (nf := nf) (len := (n : Int)) (hT0.out wr hL.wrt) hL.rd hR (by omega) (by omega) (by omega)
        unfold bv at ci
        have q0 := cell_of hL.bnd (j := 0) rfl
        have q1 := cell_of hL.bnd (j := 1) rfl
        have q2 := cell_of hL.bnd (j := 2) rfl
        have q3 := cell_of hL.bnd (j := 3) rfl
        have q4 := cell_of hL.bnd (j := 4) rfl
        have q5 := cell_of hL.bnd (j := 5) rfl
        have q6 := cell_of hL.bnd (j := 6) rfl
        replace hL := Lib.hid hL
        go_wp2_with fail
        with_reducible refine Calls.mono ci ?_
        rintro e w6 (⟨x, hx, rfl, h4, h5⟩ | ⟨q, hx, ⟨y, rfl⟩, h4, h5⟩)
        · obtain ⟨hB6, hnx⟩ := hL.out.next hRw hj hx h4 h5
          have hlen := insE_len j L hL.out.ok
          obtain ⟨⟨d0, d1, d2, d3⟩, f0, f1, f2, f3⟩ := hB6.cells (i := j) (by rw [List.length_append, List.length_replicate]; omega)
          clear ci q0 q1 q2 q3 q4 q5 q6 h4 h5 hx hB6
          obtain ⟨op, a, b, c⟩ := x
          unfold agI
          go_wp2_with fail
          go_roundw
          case rel => exact ⟨j + 1, by go_num, by omega, Lib.hid ⟨_, hnx.out⟩⟩
          case measure => simp [RowKit.intOf]; omega
        · refine ⟨rfl, .inr ⟨q, ?_, ⟨y, rfl⟩, h4, hL.out.wrt.trans h5⟩⟩
          rw [hfn.out]
          refine insE_err (j + 1) n (by omega) ?_
          show (insE zs (p + 1) G nf n j).bind _ = _
          rw [hL.out.ok]
          show (instE zs (p + 1 + 4 * j) G nf n).bind _ = _
          rw [hx]; rfl
      · obtain rfl : j = n := by omega
        have j1 : ¬ (j : Int) < (j : Int) := by omega
        have hlen := insE_len j L hL.ok
        have hfin : Hid (FnR w R v zs p G nf (.returned (.slice (some ⟨B, 0, none⟩) j j)) wr) := Lib.hid (.inl ⟨L, B, by rw [hfn.out]; exact hL.ok, by rw [hlen], by have := hL.blk; rwa [Nat.sub_self, List.replicate_zero, List.append_nil] at this, by omega, hL.lo.1, by rw [hlen]; exact hL.rd, hL.wrt⟩)
        clear hL hT0 hfn
        go_wp2_with fail
        go_ret
        exact hfin.out
  · exact ⟨rfl, .inr ⟨p, by unfold fnE; rw [g1]; rfl, ⟨x, rfl⟩, g2, g3⟩⟩
end Cd
end Go.Proofs.YtapkcjbfflgplaaDoor
