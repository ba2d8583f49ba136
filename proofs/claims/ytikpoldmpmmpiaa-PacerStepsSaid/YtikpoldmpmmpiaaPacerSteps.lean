/- For any two whole numbers and any list of whole numbers the statement PacerSteps answers true and leaves its arguments as they were: behind each cycle goals stay between a quarter of the heap and all of it, triggers and ratios with them; with nothing alive they come back to the quarter. No condition. -/
import Derived.Test.YtikpoldmpmmpiaaHome
import Derived.Test.YtikpoldmpmmpiaaPacer
import Derived.WalkKit
import Derived.ProofKit
import Derived.OpenShut
import Derived.Deep.RegionHeld3
import Derived.Deep.RegionWith
import Derived.Deep.Cut
import Derived.Deep.CutBlock
import Derived.Deep.CutRange
import Derived.Deep.DeepCutAuto
import Derived.RegionTactic
namespace Go.Proofs.Ytikpoldmpmmpiaa.pacerSteps
open Go.ChangeShapes Go.WideShapes Go.ChangeAt Go.WideElems Go.RowKit Go.Lib Fx Ho Pa
set_option linter.unusedVariables false

theorem own : ownKnob Try.prog.godebug = none := by kernel_rfl

theorem goal_empty {W p : Int} (h0 : 0 ≤ W) (h1 : W ≤ 16777216) : goalI W 0 p = W / 4 ∧ trigI 0 (W / 4) = W / 4 * 3 / 4 := by
  unfold goalI trigI grownI
  rw [Int.zero_mul]
  unfold cutI; omega
theorem box_set {B : Nat} {a b c a' b' c' : Int} {w : World} (h : Box3 B a b c w) : Box3 B a' b' c' (((w.setCell ⟨B, 0, none⟩ (.int .i64 a')).setCell ⟨B, 1, none⟩ (.int .i64 b')).setCell ⟨B, 2, none⟩ (.int .i64 c')) :=
  ⟨heap_setCell_same _ B 2 _ _ _ (heap_setCell_same _ B 1 _ _ _ (heap_setCell_same _ B 0 _ _ _ h.blk))⟩
theorem ratio_known : ratioI 0 0 64 = 1048576 ∧ ratioI (-5) 10 5 = 67108864 := by decide
set_option maxRecDepth 100000 in
set_option maxHeartbeats 4000000 in
theorem walk (a0 : Int) (a1 : Int) (v2 : Value) (z2 : List Int) (w : World) (w0 : (Lit.int .i64 a0).wf = true) (w1 : (Lit.int .i64 a1).wf = true) (h2 : Ints w (fun k => k < w.heap.size) v2 z2) :
    Calls Try.prog 7 #[.int .i64 a0, .int .i64 a1, v2] w fun e w' => e = .returned (.bool true) ∧ Below w.heap.size w w' := by
  obtain ⟨Y, hY⟩ : ∃ Y : Int, IntKind.u64.wrap a0 = Y := ⟨_, rfl⟩
  have y0 : 0 ≤ Y := by rw [← hY, IntKind.wrap_u64]; omega
  obtain ⟨Z, hZ⟩ : ∃ Z : Int, IntKind.u64.wrap a1 = Z := ⟨_, rfl⟩
  have z0 : 0 ≤ Z := by rw [← hZ, IntKind.wrap_u64]; omega
  obtain ⟨W, hW⟩ : ∃ W : Int, 256 + Y % 1048576 = W := ⟨_, rfl⟩
  have W0 : 256 ≤ W := by omega
  have W1 : W ≤ 1048831 := by omega
  obtain ⟨p, hp⟩ : ∃ p : Int, Z % 10001 = p := ⟨_, rfl⟩
  have p0 : 0 ≤ p := by omega
  have p1 : p ≤ 10000 := by omega
  have ct := fun w => told_any w
  have eA : allI W = W := cutI_id (by omega) (by omega)
  have e0 : livesI W 0 = 0 := cutI_id (by omega) (by omega)
  have cz := fun w => goal_on 0 W p (by unfold inI; omega) (by unfold inI; omega) (by unfold inI; omega) w
  obtain ⟨m1, m2⟩ := goal_empty (W := W) (p := p) (by omega) (by omega)
  rw [eA, e0, m1, m2] at cz
  have cg := Lib.hid (fun (L : Int) (h0 : 0 ≤ L) (h1 : L ≤ W) => (goal_bd (all := W) (lives := L) (percent := p) (by omega) (by omega) h0 h1))
  have cn : Hid (∀ L, 0 ≤ L → L ≤ W → ∀ w, Calls Try.prog 22 #[.int .i64 L, .int .i64 W, .int .i64 p, .bool true] w (AnsB (goalV (trigI L (goalI W L p)) (goalI W L p) (ratioI L (trigI L (goalI W L p)) (goalI W L p))) w)) := Lib.hid fun L h0 h1 w => by
    have := goal_on L W p (by unfold inI; omega) (by unfold inI; omega) (by unfold inI; omega) w
    rwa [eA, show livesI W L = L from cutI_id h0 h1] at this
  obtain ⟨q4, hq4⟩ : ∃ q, W / 4 = q := ⟨_, rfl⟩
  obtain ⟨q43, hq43⟩ : ∃ q, q4 * 3 = q := ⟨_, rfl⟩
  obtain ⟨t4, ht4⟩ : ∃ q, q43 / 4 = q := ⟨_, rfl⟩
  rw [hq4, hq43, ht4] at cz
  have cr0 := fun w => ratio_any 0 t4 q4 (by unfold inI; omega) (by unfold inI; omega) (by unfold inI; omega) w
  have cr1 := fun w => ratio_any 0 0 64 (by unfold inI; omega) (by unfold inI; omega) (by unfold inI; omega) w
  have cr2 := fun w => ratio_any (-5) 10 5 (by unfold inI; omega) (by unfold inI; omega) (by unfold inI; omega) w
  rw [ratio_known.1] at cr1
  rw [ratio_known.2] at cr2
  generalize ratioI 0 t4 q4 = Rn at *
  have E1 : Hid (IntKind.i64.wrap (W.tdiv 4) = q4) := by show _ = _; rw [Int.tdiv_eq_ediv_of_nonneg (by omega), hq4]; exact IntWalk.i64_in _ ⟨by omega, by omega⟩
  have E2 : Hid (IntKind.i64.wrap (q4 * 3) = q43) := by show _ = _; rw [hq43]; exact IntWalk.i64_in _ ⟨by omega, by omega⟩
  have E3 : Hid (IntKind.i64.wrap (q43.tdiv 4) = t4) := by show _ = _; rw [Int.tdiv_eq_ediv_of_nonneg (by omega), ht4]; exact IntWalk.i64_in _ ⟨by omega, by omega⟩
  have q40 : 0 ≤ q4 := by omega
  have q4W : q4 ≤ W := by omega
  have Q4 : Hid (W / 4 = q4) := hq4
  clear eA e0 m1 m2 hq4 hq43 ht4 w0 w1
  obtain ⟨sp, cap, rfl, hmx, hc⟩ := h2
  obtain ⟨l, hl⟩ : ∃ l, z2.length = l := ⟨_, rfl⟩
  rw [hl] at hmx hc
  rw [hl]
  have hcell : Hid (∀ W, Below w.heap.size w W → ∀ i, i < l → ∃ b off, sp = some ⟨b, off, none⟩ ∧ W.cell? ⟨b, off + i, none⟩ = some (.int .i64 (z2.getD i 0))) := fun W hb i hi => by
    obtain ⟨b, off, e, _, _, k1⟩ := hc i hi
    exact ⟨b, off, e, cell_then hb k1⟩
  clear hc hl
  go_enter Try.func7, Try.ntmps7
  go_wp2_with fail
  with_reducible refine Calls.mono (cz _) ?_
  rintro e w1 ⟨rfl, hb1⟩
  have hb0 := hb1
  go_wp2_with fail
  have hx := Box3.new w1 t4 q4 Rn
  replace hb1 := below_then hb1 (below_alloc (Below.refl _ _) (.cells #[.int .i64 t4, .int .i64 q4, .int .i64 Rn] 35))
  obtain ⟨B, hB⟩ : ∃ B, w1.heap.size = B := ⟨_, rfl⟩
  have hBw : w.heap.size ≤ B := by rw [← hB]; exact hb0.size
  rw [hB] at hx ⊢
  generalize w1.alloc (.cells #[.int .i64 t4, .int .i64 q4, .int .i64 Rn] 35) = w2 at *
  clear hY hZ hW hp y0 z0 hB
  go_loopw [10] (fun i wr => ∃ q : Nat, i = .int .i64 q ∧ q ≤ l ∧ q ≤ 20 ∧ (∃ T G R : Int, 0 ≤ G ∧ G ≤ W ∧ Hid (Box3 B T G R wr)) ∧ Hid (Below w.heap.size w wr)) (fun i _ => l - (intOf i).toNat)
  case atStart => exact ⟨0, rfl, by omega, by omega, ⟨t4, q4, Rn, q40, q4W, hx⟩, hb1⟩
  case round =>
    obtain ⟨q, rfl, ql, q20, ⟨T, G, R, G0, G1, hbx⟩, hbw⟩ := hrel
    clear hx hb1
    by_cases hlt : q < l
    · have i2 : (q : Int) < (l : Int) := by omega
      by_cases hlt2 : q < 20
      · have i3 : (q : Int) < 20 := by omega
        have i0 : (0 : Int) ≤ (q : Int) := by omega
        obtain ⟨b, off, rfl, k1⟩ := hcell.out wr hbw.out q hlt
        obtain ⟨x, hx⟩ : ∃ x, z2.getD q 0 = x := ⟨_, rfl⟩
        rw [hx] at k1
        obtain ⟨X, hX⟩ : ∃ X : Int, IntKind.u64.wrap x = X := ⟨_, rfl⟩
        have X0 : 0 ≤ X := by rw [← hX, IntKind.wrap_u64]; omega
        obtain ⟨m, hm⟩ : ∃ m : Int, X % 101 = m := ⟨_, rfl⟩
        have m0 : 0 ≤ m := by omega
        have m1 : m ≤ 100 := by omega
        have g0 : 0 ≤ G * m := Int.mul_nonneg G0 m0
        have g1 : G * m ≤ G * 100 := Int.mul_le_mul_of_nonneg_left m1 G0
        obtain ⟨gm, hgm⟩ : ∃ gm, G * m = gm := ⟨_, rfl⟩
        rw [hgm] at g0 g1
        obtain ⟨L, hL⟩ : ∃ L, gm / 100 = L := ⟨_, rfl⟩
        have L0 : 0 ≤ L := by omega
        have L1 : L ≤ W := by omega
        have f2 : X.tmod 101 = m := by rw [Int.tmod_eq_emod_of_nonneg X0, hm]
        have f4 : IntKind.i64.wrap m = m := IntWalk.i64_in _ ⟨by omega, by omega⟩
        have f5 : IntKind.i64.wrap (G * m) = gm := by rw [hgm]; exact IntWalk.i64_in _ ⟨by omega, by omega⟩
        have f6 : IntKind.i64.wrap (gm.tdiv 100) = L := by rw [Int.tdiv_eq_ediv_of_nonneg g0, hL]; exact IntWalk.i64_in _ ⟨by omega, by omega⟩
        clear hm hgm hL hx g1
        obtain ⟨h0, h1, h2, -, -, -⟩ := hbx.out.c0
        have hcn := cn.out L L0 L1
        obtain ⟨c1, c2, c3, c4, c5, c6⟩ := cg.out L L0 L1
        go_wp2_with fail
        go_quiet (fail)
        obtain ⟨l2, hl2⟩ : ∃ q, L / 2 = q := ⟨_, rfl⟩
        obtain ⟨h2, hh2⟩ : ∃ q, W / 2 = q := ⟨_, rfl⟩
        obtain ⟨s2, hs2⟩ : ∃ q, h2 + l2 = q := ⟨_, rfl⟩
        obtain ⟨mn, hmn⟩ : ∃ q, min q4 s2 = q := ⟨_, rfl⟩
        have r1 := ratio_any L (trigI L (goalI W L p)) (goalI W L p) (by unfold inI; omega) (by unfold inI; omega) (by unfold inI; omega)
        generalize ratioI L (trigI L (goalI W L p)) (goalI W L p) = R' at *
        generalize trigI L (goalI W L p) = T' at *
        generalize goalI W L p = G' at *
        obtain ⟨ml, hml⟩ : ∃ q, min L G' = q := ⟨_, rfl⟩
        have e2 : IntKind.i64.wrap (W.tdiv 2) = h2 := by rw [Int.tdiv_eq_ediv_of_nonneg (by omega), hh2]; exact IntWalk.i64_in _ ⟨by omega, by omega⟩
        have e3 : IntKind.i64.wrap (L.tdiv 2) = l2 := by rw [Int.tdiv_eq_ediv_of_nonneg (by omega), hl2]; exact IntWalk.i64_in _ ⟨by omega, by omega⟩
        have e4 : IntKind.i64.wrap (h2 + l2) = s2 := by rw [hs2]; exact IntWalk.i64_in _ ⟨by omega, by omega⟩
        have b1 := @run_min2 Try.prog _ _ _ hmn
        have b2 := @run_min2 Try.prog _ _ _ hml
        have t1 : decide (G' < mn) = false := decide_eq_false (by have := Q4.out; omega)
        have t2 : decide (W < G') = false := decide_eq_false (by omega)
        have t3 : decide (T' < ml) = false := decide_eq_false (by omega)
        clear f2 f4 f5 f6 hX hl2 hh2 hs2 hmn hml g0 c3 c4 c5 c6 h0 h1 k1
        go_wp2_with fail
        with_reducible refine Calls.mono (hcn _) ?_
        rintro e w3 ⟨rfl, hb3⟩
        replace hb3 := (below_drewN (Below.refl wr.heap.size wr) nq).trans hb3
        have hbx3 : Hid (Box3 B T G R w3) := hbx.out.below hb3
        have hbw3 : Hid (Below w.heap.size w w3) := below_then hbw.out hb3
        clear hcn hb3 hbx hbw
        go_wp2_with fail
        have hx := Box3.new w3 T' G' R'
        have hy := hbx3.out.below (below_alloc (Below.refl _ _) (.cells #[.int .i64 T', .int .i64 G', .int .i64 R'] 35))
        have hb4 := below_then hbw3.out (below_alloc (Below.refl _ _) (.cells #[.int .i64 T', .int .i64 G', .int .i64 R'] 35))
        generalize w3.heap.size = B2 at *
        generalize w3.alloc (.cells #[.int .i64 T', .int .i64 G', .int .i64 R'] 35) = w4 at *
        obtain ⟨d0, d1, d2, -, -, -⟩ := hx.c0
        replace hx := Lib.hid hx
        replace hy := Lib.hid hy
        replace hb4 := Lib.hid hb4
        have hb00 : Below w4.heap.size w4 w4 := Below.refl _ _
        have e1 := E1.out
        clear hbx3 hbw3
        go_region_held3 (fun W' => Below w4.heap.size w4 W' ∧ W'.cell? ⟨B2, 0, none⟩ = some (.int .i64 T') ∧ W'.cell? ⟨B2, 1, none⟩ = some (.int .i64 G') ∧ W'.cell? ⟨B2, 2, none⟩ = some (.int .i64 R')) (first | exact ⟨hb00.drew, d0, d1, d2⟩ | go_keep | (go_split_ands; exact ⟨below_then (by assumption) (by assumption), cell_then (by assumption) (by assumption), cell_then (by assumption) (by assumption), cell_then (by assumption) (by assumption)⟩)) (first | (go_at_call 23; ((with_reducible refine (r1 _).mono ?_); rintro e wA ⟨rfl, hbA⟩)))
        have hH : Below w4.heap.size w4 wA ∧ wA.cell? ⟨B2, 0, none⟩ = some (.int .i64 T') ∧ wA.cell? ⟨B2, 1, none⟩ = some (.int .i64 G') ∧ wA.cell? ⟨B2, 2, none⟩ = some (.int .i64 R') := by assumption
        obtain ⟨hH, d0', d1', d2'⟩ := hH
        have hy2 := hy.out.below hH
        have hfin : Hid (Box3 B T' G' R' (((wA.setCell ⟨B, 0, none⟩ (.int .i64 T')).setCell ⟨B, 1, none⟩ (.int .i64 G')).setCell ⟨B, 2, none⟩ (.int .i64 R')) ∧ Below w.heap.size w (((wA.setCell ⟨B, 0, none⟩ (.int .i64 T')).setCell ⟨B, 1, none⟩ (.int .i64 G')).setCell ⟨B, 2, none⟩ (.int .i64 R'))) :=
          ⟨box_set hy2, (((below_then hb4.out hH).setCell hBw _).setCell hBw _).setCell hBw _⟩
        obtain ⟨g0, g1, g2, f0, f1, f2⟩ := hy2.c0
        clear hx hy hb4 hb00 hH hy2 d0 d1 d2 t1 t2 t3 b1 b2 e1 e2 e3 e4 r1 hbA
        go_wp2_with fail
        go_roundw
        case rel => exact ⟨q + 1, by go_num, by omega, by omega, ⟨T', G', R', c1, c2, hfin.out.1⟩, hfin.out.2⟩
        case measure => simp [intOf]; omega
      · have i3 : ¬ (q : Int) < 20 := by omega
        have cz2 := cz
        go_wp2_with fail
        with_reducible refine Calls.mono (cz2 _) ?_
        rintro e w3 ⟨rfl, hb3⟩
        have hbw3 := below_then hbw.out hb3
        clear hb3 hbw hbx hcell cn cg
        go_wp2_with fail
        have hx := Box3.new w3 t4 q4 Rn
        have hb4 := below_then hbw3 (below_alloc (Below.refl _ _) (.cells #[.int .i64 t4, .int .i64 q4, .int .i64 Rn] 35))
        generalize w3.heap.size = B2 at *
        generalize w3.alloc (.cells #[.int .i64 t4, .int .i64 q4, .int .i64 Rn] 35) = w4 at *
        obtain ⟨d0, d1, d2, -, -, -⟩ := hx.c0
        replace hb4 := Lib.hid hb4
        have hb00 : Below w4.heap.size w4 w4 := Below.refl _ _
        have e1 := E1.out
        have e2 := E2.out
        have e3 := E3.out
        clear hbw3 hx
        go_region_held3 (fun W' => Below w4.heap.size w4 W' ∧ W'.cell? ⟨B2, 0, none⟩ = some (.int .i64 t4) ∧ W'.cell? ⟨B2, 1, none⟩ = some (.int .i64 q4) ∧ W'.cell? ⟨B2, 2, none⟩ = some (.int .i64 Rn)) (first | exact ⟨hb00.drew, d0, d1, d2⟩ | go_keep | (go_split_ands; exact ⟨below_then (by assumption) (by assumption), cell_then (by assumption) (by assumption), cell_then (by assumption) (by assumption), cell_then (by assumption) (by assumption)⟩)) (first | (go_at_call 24; ((with_reducible refine (ct _).mono ?_); rintro e wA ⟨rfl, hbA⟩)) | (go_at_call 23; ((with_reducible refine (cr0 _).mono ?_); rintro e wB ⟨rfl, hbB⟩)) | (go_at_call 23; ((with_reducible refine (cr1 _).mono ?_); rintro e wC ⟨rfl, hbC⟩)) | (go_at_call 23; ((with_reducible refine (cr2 _).mono ?_); rintro e wD ⟨rfl, hbD⟩)))
        go_wp2_with fail
        go_ret
        exact ⟨rfl, below_then (below_then (below_then (below_then hb4.out.drew hbA) hbB) hbC) hbD⟩
    · have i2 : ¬ (q : Int) < (l : Int) := by omega
      have cz2 := cz
      go_wp2_with fail
      with_reducible refine Calls.mono (cz2 _) ?_
      rintro e w3 ⟨rfl, hb3⟩
      have hbw3 := below_then hbw.out hb3
      clear hb3 hbw hbx hcell cn cg
      go_wp2_with fail
      have hx := Box3.new w3 t4 q4 Rn
      have hb4 := below_then hbw3 (below_alloc (Below.refl _ _) (.cells #[.int .i64 t4, .int .i64 q4, .int .i64 Rn] 35))
      generalize w3.heap.size = B2 at *
      generalize w3.alloc (.cells #[.int .i64 t4, .int .i64 q4, .int .i64 Rn] 35) = w4 at *
      obtain ⟨d0, d1, d2, -, -, -⟩ := hx.c0
      replace hb4 := Lib.hid hb4
      have hb00 : Below w4.heap.size w4 w4 := Below.refl _ _
      have e1 := E1.out
      have e2 := E2.out
      have e3 := E3.out
      clear hbw3 hx
      go_region_held3 (fun W' => Below w4.heap.size w4 W' ∧ W'.cell? ⟨B2, 0, none⟩ = some (.int .i64 t4) ∧ W'.cell? ⟨B2, 1, none⟩ = some (.int .i64 q4) ∧ W'.cell? ⟨B2, 2, none⟩ = some (.int .i64 Rn)) (first | exact ⟨hb00.drew, d0, d1, d2⟩ | go_keep | (go_split_ands; exact ⟨below_then (by assumption) (by assumption), cell_then (by assumption) (by assumption), cell_then (by assumption) (by assumption), cell_then (by assumption) (by assumption)⟩)) (first | (go_at_call 24; ((with_reducible refine (ct _).mono ?_); rintro e wA ⟨rfl, hbA⟩)) | (go_at_call 23; ((with_reducible refine (cr0 _).mono ?_); rintro e wB ⟨rfl, hbB⟩)) | (go_at_call 23; ((with_reducible refine (cr1 _).mono ?_); rintro e wC ⟨rfl, hbC⟩)) | (go_at_call 23; ((with_reducible refine (cr2 _).mono ?_); rintro e wD ⟨rfl, hbD⟩)))
      go_wp2_with fail
      go_ret
      exact ⟨rfl, below_then (below_then (below_then (below_then hb4.out.drew hbA) hbB) hbC) hbD⟩

set_option maxRecDepth 100000 in
theorem lifted (os : Os) (started : os.Started) (H : Type) (enc : TypeId × Value → H) :
    ReturnsInHanded {} Try.checked os 7 .any (Rows.pacerStepsSpec.pre6 enc Try.prog Try.f7 Rows.pacerStepsRow.domain false) (Rows.pacerStepsSpec.post enc Try.prog Try.f7 false true false false) := by
  refine returnsInHanded_of_change (C := Try.checked) own started (by kernel_rfl) Try.func7
    (ChangeSpec.witness6 (enc := enc) (C := Try.checked) false ⟨#[], #[.int .i64 0, .int .i64 0, .slice none 0 0], []⟩ 8 (by kernel_rfl) (by kernel_rfl) (by kernel_rfl) (by kernel_rfl)) ?_
  intro W base args ds gs before hval0 hW hcnd _
  have hval : ∀ (j : Nat) t v, Try.f7.params[j]? = some t → args[j]? = some v → Value.okWide Try.prog W .any base t v := hval0
  have hW' := hW
  obtain ⟨p, q, hA0, hV, rfl, hfz, hnd⟩ := hW
  have hA : DataW.TrodAll enc Try.prog W 0 (fun _ => true) true Try.f7.params.toList args.toList ds p := hA0
  rw [Try.params7] at hA hval
  obtain ⟨v0, vs0, d0, ds0, p0, q0, hargs, rfl, rfl, h0, r0⟩ := trodAll_cons hA
  obtain ⟨v1, vs1, d1, ds1, p1, q1, rfl, rfl, rfl, h1, r1⟩ := trodAll_cons r0
  obtain ⟨v2, vs2, d2, ds2, p2, q2, rfl, rfl, rfl, h2, r2⟩ := trodAll_cons r1
  obtain ⟨rfl, rfl, rfl⟩ := trodAll_nil r2
  obtain rfl : args = #[v0, v1, v2] := by cases args; simp_all
  obtain ⟨rfl, rfl⟩ := trodVars_none hV
  obtain ⟨z2, i2⟩ := arg_ints (hval 2 33 v2 rfl rfl) h2
  obtain ⟨a0, rfl, rfl, rfl, w0⟩ := open_int Try.underlying3 (hval 0 3 v0 rfl rfl) h0
  obtain ⟨a1, rfl, rfl, rfl, w1⟩ := open_int Try.underlying3 (hval 1 3 v1 rfl rfl) h1
  clear hA0 hval0
  simp only [List.append_nil] at hW'
  have lt2 : ∀ x ∈ p2, x.block < W.heap.size := fun x hx => by have := hW'.lt x (by simp [hx]); simpa using this
  refine (walk a0 a1 v2 z2 W w0 w1 i2).mono fun e W' ⟨he, hg⟩ => ?_
  subst he
  exact ⟨_, rfl, post_of_kept (pa := _) (pv := []) hW' (fun _ _ _ => (trodAll_cons_mk (shut_bool Try.underlying4 _) trodAll_mk0)) (trodAll_cons_mk (shut_int Try.underlying3 w0) (trodAll_cons_mk (shut_int Try.underlying3 w1) (trodAll_cons_mk (Below.trod laidOut (by kernel_rfl) (of_decide_eq_true (by kernel_rfl)) h2 hg lt2) trodAll_mk0))) (fun _ _ => rfl) (by simp) hg⟩

theorem over : Rows.pacerStepsRow.holds Try.pinned (OpenSpec.ofChange Rows.pacerStepsSpec) :=
  OpenClaim.holds_of_wide 7 Try.f7 rfl rfl rfl rfl rfl rfl rfl ⟨rfl, rfl, rfl, rfl, rfl⟩ rfl rfl rfl rfl rfl (by kernel_rfl) Try.func7 (by kernel_rfl)
    (of_decide_eq_true (by kernel_rfl)) (by unfold Func.isWrapper; first | (rw [if_pos (by decide +kernel)]; kernel_rfl) | (rw [if_neg (by decide +kernel)]; exact ⟨rfl, rfl⟩))
    (fun os started H enc _ => lifted os started H enc)

theorem proved : Rows.PacerStepsSaid :=
  over
#print axioms proved
end Go.Proofs.Ytikpoldmpmmpiaa.pacerSteps
