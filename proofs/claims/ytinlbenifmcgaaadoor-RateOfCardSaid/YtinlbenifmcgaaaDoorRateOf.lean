/- Of any numbers and any pauses (at most 60) rate's Of tells the parts, the mean and the greatest pause as the document says; RateOf answers true. No further condition but the listed tables. -/
import Derived.Test.YtinlbenifmcgaaaDoorRateOfs
import Derived.WalkKit
import Derived.ProofKit
import Derived.OpenShut
import Derived.Test.YtinlbenifmcgaaaDoorTie
import Derived.Test.YtinlbenifmcgaaaDoorCards
import Derived.LaidMore
import Derived.Stop.Joined
import Derived.SevenTiedAt
import Derived.Deep.RegionHeld3
namespace Go.Proofs.YtinlbenifmcgaaaDoor.rateOf
open Go.ChangeShapes Go.WideShapes Go.ChangeAt Go.WideElems Go.RowKit Go.Lib Fx Ho Gr Pr Fk Fl Ieee Hm
set_option linter.unusedVariables false

theorem own : ownKnob Tryd.prog.godebug = none := by kernel_rfl

theorem keep4 {V U : World} {B : Nat} {p0 p1 p2 p3 : Value} (h : Below V.heap.size V U) (k : V.cell? ⟨B, 0, none⟩ = some p0 ∧ V.cell? ⟨B, 1, none⟩ = some p1 ∧ V.cell? ⟨B, 2, none⟩ = some p2 ∧ V.cell? ⟨B, 3, none⟩ = some p3) : U.cell? ⟨B, 0, none⟩ = some p0 ∧ U.cell? ⟨B, 1, none⟩ = some p1 ∧ U.cell? ⟨B, 2, none⟩ = some p2 ∧ U.cell? ⟨B, 3, none⟩ = some p3 :=
  ⟨cell_then h k.1, cell_then h k.2.1, cell_then h k.2.2.1, cell_then h k.2.2.2⟩
set_option maxRecDepth 100000 in
set_option maxHeartbeats 4000000 in
theorem walk (a0 : Int) (a1 : Int) (a2 : Int) (a3 : Int) (v4 : Value) (z4 : List Nat) (w : World) (hT : Tab w) (w0 : (Lit.int .i64 a0).wf = true) (w1 : (Lit.int .i64 a1).wf = true) (w2 : (Lit.int .i64 a2).wf = true) (w3 : (Lit.int .i64 a3).wf = true) (h4 : Fls w v4 z4) :
    Calls Tryd.prog 6 #[.int .i64 a0, .int .i64 a1, .int .i64 a2, .int .i64 a3, v4] w fun e w' => e = .returned (.bool true) ∧ Below w.heap.size w w' := by
  have ct := fun (W : World) (hW : Below w.heap.size w W) => told_any (hT.below hW)
  have cf := few_any h4
  by_cases hz : z4.length ≤ 60
  · rw [decide_eq_true hz] at cf
    have co := of_any h4 (by omega) a0 a1 a2 a3
    have cr := fun (W : World) (hW : Below w.heap.size w W) => rmost_any (h4.below hW) (by omega) 1
    have cs1 := fun W => rshare_any a0 a1 W
    have cs2 := fun W => rshare_any a3 a2 W
    have cm := fun (W : World) (hW : Below w.heap.size w W) => rmean_any (h4.below hW) (by omega)
    generalize floatBits .quo .f64 (floatOfInt .f64 a0) (floatOfInt .f64 a1) = su at *
    generalize floatBits .quo .f64 (floatOfInt .f64 a3) (floatOfInt .f64 a2) = sg at *
    have hwz : Hid (∀ x ∈ z4, Wf x) := Lib.hid h4.2
    clear hz h4
    have hst : ∀ (a : Addr) (z : Nat) (m : Mode) (W : World), (store a (.float .f64 z) m).run Tryd.prog W = stored Tryd.prog W a (.float .f64 z) m := fun a z m W => run_store _ W a _ m rfl
    simp only [stored] at hst
    go_enter Tryd.func6, Tryd.ntmps6
    go_wp2_with fail
    with_reducible refine Calls.mono (cf) ?_
    rintro e q1 ⟨rfl, rfl⟩
    clear cf
    go_wp2_with fail
    with_reducible refine Calls.mono (co) ?_
    rintro e q2 ⟨x0, x1, x2, x3, rfl, k0, k1, k2, k3, k4, hb⟩
    replace hb := Lib.hid hb
    replace k0 := Lib.hid k0
    replace k1 := Lib.hid k1
    replace k2 := Lib.hid k2
    replace k3 := Lib.hid k3
    replace k4 := Lib.hid k4
    clear co
    go_wp2_with fail
    clear hst
    obtain ⟨B, hB⟩ : ∃ B, q2.heap.size = B := ⟨_, rfl⟩
    generalize hwq : (World.alloc q2 _) = q3
    have hrow : Hid (q3.heap[B]? = some (.cells #[.float .f64 x0, .float .f64 x1, .float .f64 x2, .float .f64 x3] 37 (0, 0))) := Lib.hid (by rw [← hwq, ← hB]; exact heap_alloc_new _ _)
    have hb3 : Hid (Below w.heap.size w q3) := Lib.hid (by rw [← hwq]; exact below_alloc hb.out _)
    simp only [hB]
    clear hwq hB hb
    with_reducible refine Calls.mono (cr _ hb3.out) ?_
    rintro e q4 ⟨u, M, rfl, hF, hp, hfa, hb⟩
    obtain ⟨y, hy⟩ : ∃ y, M.getD 0 0 = y := ⟨_, rfl⟩
    have hky : Hid (key x3 = key y) := Lib.hid (by rw [← hy]; exact k4.out M hp hfa)
    have hwy : Hid (Wf y) := Lib.hid (by rw [← hy]; exact wf_get (fun x hx => hwz.out x (hp.mem_iff.1 hx)) 0)
    have hrow4 : Hid (q4.heap[B]? = some (.cells #[.float .f64 x0, .float .f64 x1, .float .f64 x2, .float .f64 x3] 37 (0, 0))) := Lib.hid ((hb.block _ (block_lt hrow.out)).trans hrow.out)
    have hb4 : Hid (Below w.heap.size w q4) := Lib.hid (hb3.out.trans (hb.mono hb3.out.size))
    have d0 := cell_of hrow4.out (j := 0) rfl
    have d1 := cell_of hrow4.out (j := 1) rfl
    have d2 := cell_of hrow4.out (j := 2) rfl
    have d3 := cell_of hrow4.out (j := 3) rfl
    obtain ⟨⟨sp, cap, rfl, _, hi⟩, _⟩ := hF
    have hchain : Hid (∀ V0, Below q4.heap.size q4 V0 → Calls Tryd.prog 11 #[] V0 fun e U0 => e = .returned (.bool true) ∧ (U0.cell? ⟨B, 0, none⟩ = some (.float .f64 x0) ∧ U0.cell? ⟨B, 1, none⟩ = some (.float .f64 x1) ∧ U0.cell? ⟨B, 2, none⟩ = some (.float .f64 x2) ∧ U0.cell? ⟨B, 3, none⟩ = some (.float .f64 x3)) ∧ Hid (∀ V1, Below U0.heap.size U0 V1 → Calls Tryd.prog 14 #[.int .i64 a0, .int .i64 a1] V1 fun e U1 => ∃ y1, e = .returned (.float .f64 y1) ∧ (U1.cell? ⟨B, 0, none⟩ = some (.float .f64 x0) ∧ U1.cell? ⟨B, 1, none⟩ = some (.float .f64 x1) ∧ U1.cell? ⟨B, 2, none⟩ = some (.float .f64 x2) ∧ U1.cell? ⟨B, 3, none⟩ = some (.float .f64 x3)) ∧ Hid (∀ V2, Below U1.heap.size U1 V2 → Calls Tryd.prog 12 #[.float .f64 x0, .float .f64 y1] V2 fun e U2 => e = .returned (.bool true) ∧ (U2.cell? ⟨B, 0, none⟩ = some (.float .f64 x0) ∧ U2.cell? ⟨B, 1, none⟩ = some (.float .f64 x1) ∧ U2.cell? ⟨B, 2, none⟩ = some (.float .f64 x2) ∧ U2.cell? ⟨B, 3, none⟩ = some (.float .f64 x3)) ∧ Hid (∀ V3, Below U2.heap.size U2 V3 → Calls Tryd.prog 14 #[.int .i64 a3, .int .i64 a2] V3 fun e U3 => ∃ y2, e = .returned (.float .f64 y2) ∧ (U3.cell? ⟨B, 0, none⟩ = some (.float .f64 x0) ∧ U3.cell? ⟨B, 1, none⟩ = some (.float .f64 x1) ∧ U3.cell? ⟨B, 2, none⟩ = some (.float .f64 x2) ∧ U3.cell? ⟨B, 3, none⟩ = some (.float .f64 x3)) ∧ Hid (∀ V4, Below U3.heap.size U3 V4 → Calls Tryd.prog 12 #[.float .f64 x1, .float .f64 y2] V4 fun e U4 => e = .returned (.bool true) ∧ (U4.cell? ⟨B, 0, none⟩ = some (.float .f64 x0) ∧ U4.cell? ⟨B, 1, none⟩ = some (.float .f64 x1) ∧ U4.cell? ⟨B, 2, none⟩ = some (.float .f64 x2) ∧ U4.cell? ⟨B, 3, none⟩ = some (.float .f64 x3)) ∧ Hid (∀ V5, Below U4.heap.size U4 V5 → Calls Tryd.prog 16 #[v4] V5 fun e U5 => ∃ y3, e = .returned (.float .f64 y3) ∧ (U5.cell? ⟨B, 0, none⟩ = some (.float .f64 x0) ∧ U5.cell? ⟨B, 1, none⟩ = some (.float .f64 x1) ∧ U5.cell? ⟨B, 2, none⟩ = some (.float .f64 x2) ∧ U5.cell? ⟨B, 3, none⟩ = some (.float .f64 x3)) ∧ Hid (∀ V6, Below U5.heap.size U5 V6 → Calls Tryd.prog 12 #[.float .f64 x2, .float .f64 y3] V6 fun e U6 => e = .returned (.bool true) ∧ (U6.cell? ⟨B, 0, none⟩ = some (.float .f64 x0) ∧ U6.cell? ⟨B, 1, none⟩ = some (.float .f64 x1) ∧ U6.cell? ⟨B, 2, none⟩ = some (.float .f64 x2) ∧ U6.cell? ⟨B, 3, none⟩ = some (.float .f64 x3)) ∧ Hid (∀ V7, Below U6.heap.size U6 V7 → Calls Tryd.prog 12 #[.float .f64 x3, .float .f64 y] V7 fun e U7 => e = .returned (.bool true) ∧ (U7.cell? ⟨B, 0, none⟩ = some (.float .f64 x0) ∧ U7.cell? ⟨B, 1, none⟩ = some (.float .f64 x1) ∧ U7.cell? ⟨B, 2, none⟩ = some (.float .f64 x2) ∧ U7.cell? ⟨B, 3, none⟩ = some (.float .f64 x3)) ∧ Hid (Below w.heap.size w U7))))))))) := Lib.hid fun V0 h0 => by
      have t0 : (V0.cell? ⟨B, 0, none⟩ = some (.float .f64 x0) ∧ V0.cell? ⟨B, 1, none⟩ = some (.float .f64 x1) ∧ V0.cell? ⟨B, 2, none⟩ = some (.float .f64 x2) ∧ V0.cell? ⟨B, 3, none⟩ = some (.float .f64 x3)) := keep4 h0 (show (q4.cell? ⟨B, 0, none⟩ = some (.float .f64 x0) ∧ q4.cell? ⟨B, 1, none⟩ = some (.float .f64 x1) ∧ q4.cell? ⟨B, 2, none⟩ = some (.float .f64 x2) ∧ q4.cell? ⟨B, 3, none⟩ = some (.float .f64 x3)) from ⟨d0, d1, d2, d3⟩)
      have c0 : Below w.heap.size w V0 := hb4.out.trans (h0.mono hb4.out.size)
      refine (ct V0 c0).mono fun e U0 ⟨e1, m0⟩ => ?_
      have b0 := c0.trans (m0.mono c0.size)
      have s0 := keep4 m0 t0
      exact ⟨e1, s0, Lib.hid (fun V1 h1 => by
        have t1 : (V1.cell? ⟨B, 0, none⟩ = some (.float .f64 x0) ∧ V1.cell? ⟨B, 1, none⟩ = some (.float .f64 x1) ∧ V1.cell? ⟨B, 2, none⟩ = some (.float .f64 x2) ∧ V1.cell? ⟨B, 3, none⟩ = some (.float .f64 x3)) := keep4 h1 s0
        have c1 : Below w.heap.size w V1 := b0.trans (h1.mono b0.size)
        refine (cs1 V1).mono fun e U1 ⟨y1, n1, e1, e2, g1⟩ => ?_
        subst e2
        have m1 : Below V1.heap.size V1 (V1.drewN n1) := below_drewN (Below.refl _ _) _
        have b1 := c1.trans (m1.mono c1.size)
        have s1 := keep4 m1 t1
        exact ⟨y1, e1, s1, Lib.hid (fun V2 h2 => by
          have t2 : (V2.cell? ⟨B, 0, none⟩ = some (.float .f64 x0) ∧ V2.cell? ⟨B, 1, none⟩ = some (.float .f64 x1) ∧ V2.cell? ⟨B, 2, none⟩ = some (.float .f64 x2) ∧ V2.cell? ⟨B, 3, none⟩ = some (.float .f64 x3)) := keep4 h2 s1
          have c2 : Below w.heap.size w V2 := b1.trans (h2.mono b1.size)
          have cc := same_any x0 y1 (k0.out.1) (g1.1) V2
          rw [decide_eq_true (k0.out.2.1.trans g1.2.1.symm)] at cc
          refine cc.mono fun e U2 ⟨e1, e2⟩ => ?_
          subst e2
          have b2 := c2
          have s2 := t2
          exact ⟨e1, s2, Lib.hid (fun V3 h3 => by
            have t3 : (V3.cell? ⟨B, 0, none⟩ = some (.float .f64 x0) ∧ V3.cell? ⟨B, 1, none⟩ = some (.float .f64 x1) ∧ V3.cell? ⟨B, 2, none⟩ = some (.float .f64 x2) ∧ V3.cell? ⟨B, 3, none⟩ = some (.float .f64 x3)) := keep4 h3 s2
            have c3 : Below w.heap.size w V3 := b2.trans (h3.mono b2.size)
            refine (cs2 V3).mono fun e U3 ⟨y2, n3, e1, e2, g3⟩ => ?_
            subst e2
            have m3 : Below V3.heap.size V3 (V3.drewN n3) := below_drewN (Below.refl _ _) _
            have b3 := c3.trans (m3.mono c3.size)
            have s3 := keep4 m3 t3
            exact ⟨y2, e1, s3, Lib.hid (fun V4 h4 => by
              have t4 : (V4.cell? ⟨B, 0, none⟩ = some (.float .f64 x0) ∧ V4.cell? ⟨B, 1, none⟩ = some (.float .f64 x1) ∧ V4.cell? ⟨B, 2, none⟩ = some (.float .f64 x2) ∧ V4.cell? ⟨B, 3, none⟩ = some (.float .f64 x3)) := keep4 h4 s3
              have c4 : Below w.heap.size w V4 := b3.trans (h4.mono b3.size)
              have cc := same_any x1 y2 (k1.out.1) (g3.1) V4
              rw [decide_eq_true (k1.out.2.1.trans g3.2.1.symm)] at cc
              refine cc.mono fun e U4 ⟨e1, e2⟩ => ?_
              subst e2
              have b4 := c4
              have s4 := t4
              exact ⟨e1, s4, Lib.hid (fun V5 h5 => by
                have t5 : (V5.cell? ⟨B, 0, none⟩ = some (.float .f64 x0) ∧ V5.cell? ⟨B, 1, none⟩ = some (.float .f64 x1) ∧ V5.cell? ⟨B, 2, none⟩ = some (.float .f64 x2) ∧ V5.cell? ⟨B, 3, none⟩ = some (.float .f64 x3)) := keep4 h5 s4
                have c5 : Below w.heap.size w V5 := b4.trans (h5.mono b4.size)
                refine (cm V5 c5).mono fun e U5 ⟨y3, n5, e1, e2, g5⟩ => ?_
                subst e2
                have m5 : Below V5.heap.size V5 (V5.drewN n5) := below_drewN (Below.refl _ _) _
                have b5 := c5.trans (m5.mono c5.size)
                have s5 := keep4 m5 t5
                exact ⟨y3, e1, s5, Lib.hid (fun V6 h6 => by
                  have t6 : (V6.cell? ⟨B, 0, none⟩ = some (.float .f64 x0) ∧ V6.cell? ⟨B, 1, none⟩ = some (.float .f64 x1) ∧ V6.cell? ⟨B, 2, none⟩ = some (.float .f64 x2) ∧ V6.cell? ⟨B, 3, none⟩ = some (.float .f64 x3)) := keep4 h6 s5
                  have c6 : Below w.heap.size w V6 := b5.trans (h6.mono b5.size)
                  have cc := same_any x2 y3 (k2.out.1) (g5.1) V6
                  rw [decide_eq_true (k2.out.2.1.trans g5.2.1.symm)] at cc
                  refine cc.mono fun e U6 ⟨e1, e2⟩ => ?_
                  subst e2
                  have b6 := c6
                  have s6 := t6
                  exact ⟨e1, s6, Lib.hid (fun V7 h7 => by
                    have t7 : (V7.cell? ⟨B, 0, none⟩ = some (.float .f64 x0) ∧ V7.cell? ⟨B, 1, none⟩ = some (.float .f64 x1) ∧ V7.cell? ⟨B, 2, none⟩ = some (.float .f64 x2) ∧ V7.cell? ⟨B, 3, none⟩ = some (.float .f64 x3)) := keep4 h7 s6
                    have c7 : Below w.heap.size w V7 := b6.trans (h7.mono b6.size)
                    have cc := same_any x3 y (k3.out) (hwy.out) V7
                    rw [decide_eq_true (hky.out)] at cc
                    refine cc.mono fun e U7 ⟨e1, e2⟩ => ?_
                    subst e2
                    have b7 := c7
                    have s7 := t7
                    exact ⟨e1, s7, Lib.hid (b7)⟩)⟩)⟩)⟩)⟩)⟩)⟩)⟩
    have hbd : Below q4.heap.size q4 q4.drew := (Below.refl _ _).drew
    clear cr hb hb3 hrow hrow4 hb4 k0 k1 k2 k3 k4 hky hwy ct cs1 cs2 cm hp hfa hwz
    match M, hy, hi with
    | [], hy, hi =>
      have hy0 : (0 : Nat) = y := hy
      subst hy0
      clear hi hy
      go_wp2_with fail
      go_region_held3 (fun W' => W'.cell? ⟨B, 0, none⟩ = some (.float .f64 x0) ∧ W'.cell? ⟨B, 1, none⟩ = some (.float .f64 x1) ∧ W'.cell? ⟨B, 2, none⟩ = some (.float .f64 x2) ∧ W'.cell? ⟨B, 3, none⟩ = some (.float .f64 x3)) (first | exact ⟨d0, d1, d2, d3⟩ | go_keep | assumption | (go_split_ands; exact ⟨cell_then (by assumption) (by assumption), cell_then (by assumption) (by assumption), cell_then (by assumption) (by assumption), cell_then (by assumption) (by assumption)⟩)) (first | (go_at_call 12; ((with_reducible refine (hc7_.out _ (by repeat (first | assumption | exact Below.refl _ _ | refine below_drewN ?_ _ | refine below_alloc ?_ _ | refine below_then ?_ (by assumption)))).mono ?_); rintro e z7 ⟨rfl, hk7, hc8_⟩)) | (go_at_call 12; ((with_reducible refine (hc6_.out _ (by repeat (first | assumption | exact Below.refl _ _ | refine below_drewN ?_ _ | refine below_alloc ?_ _ | refine below_then ?_ (by assumption)))).mono ?_); rintro e z6 ⟨rfl, hk6, hc7_⟩)) | (go_at_call 16; ((with_reducible refine (hc5_.out _ (by repeat (first | assumption | exact Below.refl _ _ | refine below_drewN ?_ _ | refine below_alloc ?_ _ | refine below_then ?_ (by assumption)))).mono ?_); rintro e z5 ⟨y3, rfl, hk5, hc6_⟩)) | (go_at_call 12; ((with_reducible refine (hc4_.out _ (by repeat (first | assumption | exact Below.refl _ _ | refine below_drewN ?_ _ | refine below_alloc ?_ _ | refine below_then ?_ (by assumption)))).mono ?_); rintro e z4 ⟨rfl, hk4, hc5_⟩)) | (go_at_call 14; ((with_reducible refine (hc3_.out _ (by repeat (first | assumption | exact Below.refl _ _ | refine below_drewN ?_ _ | refine below_alloc ?_ _ | refine below_then ?_ (by assumption)))).mono ?_); rintro e z3 ⟨y2, rfl, hk3, hc4_⟩)) | (go_at_call 12; ((with_reducible refine (hc2_.out _ (by repeat (first | assumption | exact Below.refl _ _ | refine below_drewN ?_ _ | refine below_alloc ?_ _ | refine below_then ?_ (by assumption)))).mono ?_); rintro e z2 ⟨rfl, hk2, hc3_⟩)) | (go_at_call 14; ((with_reducible refine (hc1_.out _ (by repeat (first | assumption | exact Below.refl _ _ | refine below_drewN ?_ _ | refine below_alloc ?_ _ | refine below_then ?_ (by assumption)))).mono ?_); rintro e z1 ⟨y1, rfl, hk1, hc2_⟩)) | (go_at_call 11; ((with_reducible refine (hchain.out _ (by repeat (first | assumption | exact Below.refl _ _ | refine below_drewN ?_ _ | refine below_alloc ?_ _ | refine below_then ?_ (by assumption)))).mono ?_); rintro e z0 ⟨rfl, hk0, hc1_⟩)))
      all_goals
        go_wp2_with fail
        go_ret
        exact ⟨rfl, hc8_.out⟩
    | m :: M', hy, hi =>
      obtain ⟨b, off, rfl, _, hc⟩ := hi 0 (by simp)
      have hc2 : q4.cell? ⟨b, off + 0, none⟩ = some (.float .f64 y) := by rw [← hy]; exact hc
      rw [Nat.add_zero] at hc2
      clear hi hy hc
      go_wp2_with fail
      go_region_held3 (fun W' => W'.cell? ⟨B, 0, none⟩ = some (.float .f64 x0) ∧ W'.cell? ⟨B, 1, none⟩ = some (.float .f64 x1) ∧ W'.cell? ⟨B, 2, none⟩ = some (.float .f64 x2) ∧ W'.cell? ⟨B, 3, none⟩ = some (.float .f64 x3)) (first | exact ⟨d0, d1, d2, d3⟩ | go_keep | assumption | (go_split_ands; exact ⟨cell_then (by assumption) (by assumption), cell_then (by assumption) (by assumption), cell_then (by assumption) (by assumption), cell_then (by assumption) (by assumption)⟩)) (first | (go_at_call 12; ((with_reducible refine (hc7_.out _ (by repeat (first | assumption | exact Below.refl _ _ | refine below_drewN ?_ _ | refine below_alloc ?_ _ | refine below_then ?_ (by assumption)))).mono ?_); rintro e z7 ⟨rfl, hk7, hc8_⟩)) | (go_at_call 12; ((with_reducible refine (hc6_.out _ (by repeat (first | assumption | exact Below.refl _ _ | refine below_drewN ?_ _ | refine below_alloc ?_ _ | refine below_then ?_ (by assumption)))).mono ?_); rintro e z6 ⟨rfl, hk6, hc7_⟩)) | (go_at_call 16; ((with_reducible refine (hc5_.out _ (by repeat (first | assumption | exact Below.refl _ _ | refine below_drewN ?_ _ | refine below_alloc ?_ _ | refine below_then ?_ (by assumption)))).mono ?_); rintro e z5 ⟨y3, rfl, hk5, hc6_⟩)) | (go_at_call 12; ((with_reducible refine (hc4_.out _ (by repeat (first | assumption | exact Below.refl _ _ | refine below_drewN ?_ _ | refine below_alloc ?_ _ | refine below_then ?_ (by assumption)))).mono ?_); rintro e z4 ⟨rfl, hk4, hc5_⟩)) | (go_at_call 14; ((with_reducible refine (hc3_.out _ (by repeat (first | assumption | exact Below.refl _ _ | refine below_drewN ?_ _ | refine below_alloc ?_ _ | refine below_then ?_ (by assumption)))).mono ?_); rintro e z3 ⟨y2, rfl, hk3, hc4_⟩)) | (go_at_call 12; ((with_reducible refine (hc2_.out _ (by repeat (first | assumption | exact Below.refl _ _ | refine below_drewN ?_ _ | refine below_alloc ?_ _ | refine below_then ?_ (by assumption)))).mono ?_); rintro e z2 ⟨rfl, hk2, hc3_⟩)) | (go_at_call 14; ((with_reducible refine (hc1_.out _ (by repeat (first | assumption | exact Below.refl _ _ | refine below_drewN ?_ _ | refine below_alloc ?_ _ | refine below_then ?_ (by assumption)))).mono ?_); rintro e z1 ⟨y1, rfl, hk1, hc2_⟩)) | (go_at_call 11; ((with_reducible refine (hchain.out _ (by repeat (first | assumption | exact Below.refl _ _ | refine below_drewN ?_ _ | refine below_alloc ?_ _ | refine below_then ?_ (by assumption)))).mono ?_); rintro e z0 ⟨rfl, hk0, hc1_⟩)))
      all_goals
        go_wp2_with fail
        go_ret
        exact ⟨rfl, hc8_.out⟩
  · rw [decide_eq_false hz] at cf
    clear hz h4
    go_enter Tryd.func6, Tryd.ntmps6
    go_wp2_with fail
    with_reducible refine Calls.mono (cf) ?_
    rintro e q1 ⟨rfl, rfl⟩
    go_wp2_with fail
    with_reducible refine Calls.mono (ct _ (Below.refl _ _)) ?_
    rintro e q2 ⟨rfl, hB⟩
    go_wp2_with fail
    go_ret
    exact ⟨rfl, hB⟩

set_option maxRecDepth 100000 in
theorem lifted (os : Os) (started : os.Started) (H : Type) (enc : TypeId × Value → H) :
    ReturnsInHanded {} Tryd.checked os 6 .any (fun w args => (Rows.rateOfSpec.pre enc Tryd.prog Tryd.f6 [] false w args ∧ laidMetH Tryd.prog [("math/bits.deBruijn32tab", Rows.laid_math_bits_deBruijn32tab), ("math/bits.deBruijn64tab", Rows.laid_math_bits_deBruijn64tab), ("internal/strconv.uint64pow10", Rows.laid_internal_strconv_uint64pow10)] w) ∧ sizedMet enc Tryd.prog Tryd.f6 (OpenSpec.ofChange Rows.rateOfSpec) false w args) (Rows.rateOfSpec.post enc Tryd.prog Tryd.f6 false true false false) := by
  refine returnsInHanded_of_change_and (C := Tryd.checked) (X := fun w _ => laidMetH Tryd.prog [("math/bits.deBruijn32tab", Rows.laid_math_bits_deBruijn32tab), ("math/bits.deBruijn64tab", Rows.laid_math_bits_deBruijn64tab), ("internal/strconv.uint64pow10", Rows.laid_internal_strconv_uint64pow10)] w) (fun _ _ _ hh h => h.of_heap hh) own started (by kernel_rfl) Tryd.func6
    (ChangeSpec.witness_shaped (enc := enc) (C := Tryd.checked) (os := os) (X := fun w _ => laidMetH Tryd.prog [("math/bits.deBruijn32tab", Rows.laid_math_bits_deBruijn32tab), ("math/bits.deBruijn64tab", Rows.laid_math_bits_deBruijn64tab), ("internal/strconv.uint64pow10", Rows.laid_internal_strconv_uint64pow10)] w) false (World.doorLaid Tryd.prog 400 os) #[.int .i64 0, .int .i64 0, .int .i64 0, .int .i64 0, .slice none 0 0] 8 rfl (World.shaped_of_RefB (by kernel_rfl) (by kernel_rfl)) (by kernel_rfl) (by kernel_rfl) (by kernel_rfl) (door_met os _)) ?_
  intro W base args ds gs before hval0 hW _ _ hL _
  have hval : ∀ (j : Nat) t v, Tryd.f6.params[j]? = some t → args[j]? = some v → Value.okWide Tryd.prog W .any base t v := hval0
  have hW' := hW
  obtain ⟨p, q, hA0, hV, rfl, hfz, hnd⟩ := hW
  have hA : DataW.TrodAll enc Tryd.prog W 0 (fun _ => true) true Tryd.f6.params.toList args.toList ds p := hA0
  rw [Tryd.params6] at hA hval
  obtain ⟨v0, vs0, d0, ds0, p0, q0, hargs, rfl, rfl, h0, r0⟩ := trodAll_cons hA
  obtain ⟨v1, vs1, d1, ds1, p1, q1, rfl, rfl, rfl, h1, r1⟩ := trodAll_cons r0
  obtain ⟨v2, vs2, d2, ds2, p2, q2, rfl, rfl, rfl, h2, r2⟩ := trodAll_cons r1
  obtain ⟨v3, vs3, d3, ds3, p3, q3, rfl, rfl, rfl, h3, r3⟩ := trodAll_cons r2
  obtain ⟨v4, vs4, d4, ds4, p4, q4, rfl, rfl, rfl, h4, r4⟩ := trodAll_cons r3
  obtain ⟨rfl, rfl, rfl⟩ := trodAll_nil r4
  obtain rfl : args = #[v0, v1, v2, v3, v4] := by cases args; simp_all
  obtain ⟨rfl, rfl⟩ := trodVars_none hV
  obtain ⟨z4, i4⟩ := fls_arg (hval 4 22 v4 rfl rfl) h4
  obtain ⟨a0, rfl, rfl, rfl, w0⟩ := open_int Tryd.underlying3 (hval 0 3 v0 rfl rfl) h0
  obtain ⟨a1, rfl, rfl, rfl, w1⟩ := open_int Tryd.underlying3 (hval 1 3 v1 rfl rfl) h1
  obtain ⟨a2, rfl, rfl, rfl, w2⟩ := open_int Tryd.underlying3 (hval 2 3 v2 rfl rfl) h2
  obtain ⟨a3, rfl, rfl, rfl, w3⟩ := open_int Tryd.underlying3 (hval 3 3 v3 rfl rfl) h3
  clear hA0 hval0
  simp only [List.append_nil] at hW'
  have lt4 : ∀ x ∈ p4, x.block < W.heap.size := fun x hx => by have := hW'.lt x (by simp [hx]); simpa using this
  refine (walk a0 a1 a2 a3 v4 z4 W (tab_of_laid hL) w0 w1 w2 w3 i4).mono fun e W' ⟨he, hg⟩ => ?_
  subst he
  exact ⟨_, rfl, post_of_kept (pa := _) (pv := []) hW' (fun _ _ _ => (trodAll_cons_mk (shut_bool Tryd.underlying4 _) trodAll_mk0)) (trodAll_cons_mk (shut_int Tryd.underlying3 w0) (trodAll_cons_mk (shut_int Tryd.underlying3 w1) (trodAll_cons_mk (shut_int Tryd.underlying3 w2) (trodAll_cons_mk (shut_int Tryd.underlying3 w3) (trodAll_cons_mk (Below.trod laidOut (by kernel_rfl) (of_decide_eq_true (by kernel_rfl)) h4 hg lt4) trodAll_mk0))))) (fun _ _ => rfl) (by simp) hg⟩

theorem over : Rows.rateOfRow.holds Tryd.pinned (OpenSpec.ofChange Rows.rateOfSpec) :=
  OpenClaim.holds_of_wide 6 Tryd.f6 rfl rfl rfl rfl rfl rfl rfl ⟨rfl, rfl, rfl, rfl, rfl⟩ rfl rfl rfl rfl rfl (by kernel_rfl) Tryd.func6 (by kernel_rfl)
    (of_decide_eq_true (by kernel_rfl)) (by unfold Func.isWrapper; first | (rw [if_pos (by decide +kernel)]; kernel_rfl) | (rw [if_neg (by decide +kernel)]; exact ⟨rfl, rfl⟩))
    (fun os started H enc _ => lifted os started H enc)

theorem proved : Rows.RateOfCardSaid :=
  Claim7.holds_tied_plain_at .later [] [.data, .data, .data] true Rows.rateOfCard.stood.harness true
    over (fun _ h => by cases h) (by kernel_rfl) (fun _ h => by cases h) rateOf_row_tie rfl ⟨rfl, rfl⟩ (by kernel_rfl) rfl
    (fun f fn hf hfn => by
      obtain rfl : f = 6 := Option.some.inj ((show Tryd.prog.funcNamed "treadmill/treadmilllaw31.RateOf" = some 6 by kernel_rfl).symm.trans hf) |>.symm
      obtain rfl : fn = Tryd.f6 := (Option.some.inj (Tryd.func6.symm.trans hfn)).symm
      exact ⟨by kernel_rfl, fun j t ht => by
        rw [Tryd.params6] at ht
        have hm : t ∈ [3, 22] := by simpa using Array.mem_of_getElem? ht
        have hall : ([3, 22].all fun u => !Tryd.prog.wantsStandIn u) = true := by kernel_rfl
        exact (show Tryd.prog.wantsStandIn t = false by simpa using List.all_eq_true.1 hall t hm)⟩)
    (by kernel_rfl)
#print axioms proved
end Go.Proofs.YtinlbenifmcgaaaDoor.rateOf
