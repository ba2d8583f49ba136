/- For any two whole numbers the statement ClassRises answers true and leaves its arguments as they were: of two sizes from 1 to 256 the greater never has a lesser class, a class holds less than twice what it must, and the classes rise. No condition. -/
import Derived.Test.YtongpnkejakceaaClassRef
import Derived.WalkKit
import Derived.ProofKit
import Derived.OpenShut
namespace Go.Proofs.Ytongpnkejakceaa.classRises
open Go.ChangeShapes Go.WideShapes Go.ChangeAt Go.RowKit Go.Lib Fx Cl
set_option linter.unusedVariables false

theorem own : ownKnob Try.prog.godebug = none := by kernel_rfl

theorem size_mono {i j : Int} (h0 : 0 ≤ i) (h1 : i ≤ 15) (h2 : 0 ≤ j) (h3 : j ≤ 15) (h : i ≤ j) : sizeI i ≤ sizeI j := by
  have := each (p := fun i => ∀ m : Fin 16, i ≤ (m.val : Int) → sizeI i ≤ sizeI (m.val : Int)) (by decide +kernel) h0 h1 ⟨j.toNat, by omega⟩
  rw [show ((j.toNat : Nat) : Int) = j by omega] at this
  exact this h
theorem size_rises {c : Int} (h0 : 1 ≤ c) (h1 : c ≤ 15) : sizeI (c - 1) < sizeI c := by
  have := each (p := fun i => i = 0 ∨ sizeI (i - 1) < sizeI i) (by decide +kernel) (show 0 ≤ c by omega) h1
  omega
theorem slots_pos {c : Int} (h0 : 0 ≤ c) (h1 : c ≤ 15) : 1 ≤ slotsI c := each (p := fun i => 1 ≤ slotsI i) (by decide +kernel) h0 h1
theorem half_full {n : Int} (h0 : 1 ≤ n) (h1 : n ≤ 256) : sizeI (ofI n) < 2 * n := each_n (p := fun n => sizeI (ofI n) < 2 * n) (by decide +kernel) h0 h1
theorem of_mono {m n : Int} (h0 : 1 ≤ m) (h1 : m ≤ n) (h2 : n ≤ 256) : ofI m ≤ ofI n := by
  obtain ⟨a0, a1, a2, a3⟩ := of_in (n := m) h0 (by omega)
  obtain ⟨b0, b1, b2, b3⟩ := of_in (n := n) (by omega) h2
  refine Int.not_lt.1 fun h => ?_
  have := size_mono (i := ofI n) (j := ofI m - 1) (by omega) (by omega) (by omega) (by omega) (by omega)
  omega
set_option maxRecDepth 100000 in
set_option maxHeartbeats 2000000 in
theorem walk (a0 : Int) (a1 : Int) (w0 : (Lit.int .i64 a0).wf = true) (w1 : (Lit.int .i64 a1).wf = true) (w : World) :
    Calls Try.prog 9 #[.int .i64 a0, .int .i64 a1] w fun e w' => e = .returned (.bool true) ∧ Below w.heap.size w w' := by
  have ct := fun w => told4_any w
  have cc := fun w => count_any w
  obtain ⟨Y, hY⟩ : ∃ Y : Int, IntKind.u64.wrap a0 = Y := ⟨_, rfl⟩
  obtain ⟨Z, hZ⟩ : ∃ Z : Int, IntKind.u64.wrap a1 = Z := ⟨_, rfl⟩
  have y0 : 0 ≤ Y := by rw [← hY, IntKind.wrap_u64]; omega
  have z0 : 0 ≤ Z := by rw [← hZ, IntKind.wrap_u64]; omega
  obtain ⟨p, hp⟩ : ∃ p : Int, Y % 256 = p := ⟨_, rfl⟩
  obtain ⟨q, hq⟩ : ∃ q : Int, Z % 256 = q := ⟨_, rfl⟩
  have p1 : 0 ≤ p := by omega
  have p2 : p < 256 := by omega
  have q1 : 0 ≤ q := by omega
  have q2 : q < 256 := by omega
  have e1 : ∀ w, Calls Try.prog 20 #[.int .i64 (-1)] w (AnsB (.int .i64 0) w) := fun w => size_any4 (-1) w
  have e2 : ∀ w, Calls Try.prog 20 #[.int .i64 16] w (AnsB (.int .i64 0) w) := fun w => size_any4 16 w
  have e3 : ∀ w, Calls Try.prog 24 #[.int .i64 16] w (AnsB (.int .i64 0) w) := fun w => slots_any 16 w
  have e4 : ∀ w, Calls Try.prog 26 #[.int .i64 0] w (AnsB (.int .i64 (-1)) w) := fun w => of_any 0 w
  by_cases hpq : q < p
  · have ck := fun w => of_any (1 + q) w
    have cj := fun w => of_any (1 + p) w
    have hm := of_mono (m := 1 + q) (n := 1 + p) (by omega) (by omega) (by omega)
    obtain ⟨k0, k1, k2, k3⟩ := of_in (n := 1 + q) (by omega) (by omega)
    obtain ⟨j0, j1, j2, j3⟩ := of_in (n := 1 + p) (by omega) (by omega)
    have hh := half_full (n := 1 + q) (by omega) (by omega)
    generalize ofI (1 + q) = k at *
    generalize ofI (1 + p) = j at *
    have sk := fun w => size_any4 k w
    have sj := fun w => size_any4 j w
    obtain ⟨g1, g2⟩ := size_in k0 k1
    obtain ⟨g3, g4⟩ := size_in j0 j1
    clear k3 j3
    obtain ⟨u, hu⟩ : ∃ u, sizeI k = u := ⟨_, rfl⟩
    obtain ⟨v, hv⟩ : ∃ v, sizeI j = v := ⟨_, rfl⟩
    simp only [hu, hv] at *
    go_enter Try.func9, Try.ntmps9
    go_wp2_with (first | (go_at_call 26; ((with_reducible refine (ck _).mono ?_); rintro e w' ⟨rfl, hb⟩)) | (go_at_call 26; ((with_reducible refine (cj _).mono ?_); rintro e w' ⟨rfl, hb⟩)) | (go_at_call 20; ((with_reducible refine (sk _).mono ?_); rintro e w' ⟨rfl, hb⟩)) | (go_at_call 20; ((with_reducible refine (sj _).mono ?_); rintro e w' ⟨rfl, hb⟩)))
    have hb0 : Below w.heap.size w w' := (by repeat (first | assumption | exact Below.refl _ _ | refine below_drewN ?_ _ | refine below_alloc ?_ _ | refine below_then ?_ (by assumption)))
    go_loopw [9] (fun i wr => ∃ c : Int, i = .int .i64 c ∧ 1 ≤ c ∧ c ≤ 16 ∧ Below w.heap.size w wr) (fun i _ => (16 - intOf i).toNat)
    case atStart => exact ⟨1, rfl, by omega, by omega, hb0⟩
    case round =>
      obtain ⟨c, rfl, c1, c2, hbr⟩ := hrel
      clear hb0 hu hv
      by_cases g : c ≤ 15
      · have d1 := fun w => size_any4 c w
        have d2 := fun w => size_any4 (c - 1) w
        have d3 := fun w => slots_any c w
        have d4 := fun w => pages_any c w
        have f1 := size_rises c1 g
        have f2 := slots_pos (c := c) (by omega) g
        obtain ⟨f3, f4⟩ := pages_in (k := c) (by omega) g
        generalize sizeI c = x1 at *
        generalize sizeI (c - 1) = x2 at *
        generalize slotsI c = x3 at *
        generalize pagesI c = x4 at *
        go_wp2_with (first | (go_at_call 28; ((with_reducible refine (cc _).mono ?_); rintro e w' ⟨rfl, n, rfl⟩)) | (go_at_call 20; ((with_reducible refine (d1 _).mono ?_); rintro e w' ⟨rfl, hb⟩)) | (go_at_call 20; ((with_reducible refine (d2 _).mono ?_); rintro e w' ⟨rfl, hb⟩)) | (go_at_call 24; ((with_reducible refine (d3 _).mono ?_); rintro e w' ⟨rfl, hb⟩)) | (go_at_call 22; ((with_reducible refine (d4 _).mono ?_); rintro e w' ⟨rfl, hb⟩)))
        go_roundw
        case rel => exact ⟨c + 1, rfl, by omega, by omega, (by repeat (first | assumption | exact Below.refl _ _ | refine below_drewN ?_ _ | refine below_alloc ?_ _ | refine below_then ?_ (by assumption)))⟩
        case measure => simp [intOf]; omega
      · obtain rfl : c = 16 := by omega
        go_wp2_with (first | (go_at_call 28; ((with_reducible refine (cc _).mono ?_); rintro e w' ⟨rfl, n, rfl⟩)) | (go_at_call 19; ((with_reducible refine (ct _).mono ?_); rintro e w' ⟨rfl, hb⟩)) | (go_at_call 20; ((with_reducible refine (e1 _).mono ?_); rintro e w' ⟨rfl, hb⟩)) | (go_at_call 20; ((with_reducible refine (e2 _).mono ?_); rintro e w' ⟨rfl, hb⟩)) | (go_at_call 24; ((with_reducible refine (e3 _).mono ?_); rintro e w' ⟨rfl, hb⟩)) | (go_at_call 26; ((with_reducible refine (e4 _).mono ?_); rintro e w' ⟨rfl, hb⟩)))
        go_ret
        exact ⟨rfl, (by repeat (first | assumption | exact Below.refl _ _ | refine below_drewN ?_ _ | refine below_alloc ?_ _ | refine below_then ?_ (by assumption)))⟩
  · have ck := fun w => of_any (1 + p) w
    have cj := fun w => of_any (1 + q) w
    have hm := of_mono (m := 1 + p) (n := 1 + q) (by omega) (by omega) (by omega)
    obtain ⟨k0, k1, k2, k3⟩ := of_in (n := 1 + p) (by omega) (by omega)
    obtain ⟨j0, j1, j2, j3⟩ := of_in (n := 1 + q) (by omega) (by omega)
    have hh := half_full (n := 1 + p) (by omega) (by omega)
    generalize ofI (1 + p) = k at *
    generalize ofI (1 + q) = j at *
    have sk := fun w => size_any4 k w
    have sj := fun w => size_any4 j w
    obtain ⟨g1, g2⟩ := size_in k0 k1
    obtain ⟨g3, g4⟩ := size_in j0 j1
    clear k3 j3
    obtain ⟨u, hu⟩ : ∃ u, sizeI k = u := ⟨_, rfl⟩
    obtain ⟨v, hv⟩ : ∃ v, sizeI j = v := ⟨_, rfl⟩
    simp only [hu, hv] at *
    go_enter Try.func9, Try.ntmps9
    go_wp2_with (first | (go_at_call 26; ((with_reducible refine (ck _).mono ?_); rintro e w' ⟨rfl, hb⟩)) | (go_at_call 26; ((with_reducible refine (cj _).mono ?_); rintro e w' ⟨rfl, hb⟩)) | (go_at_call 20; ((with_reducible refine (sk _).mono ?_); rintro e w' ⟨rfl, hb⟩)) | (go_at_call 20; ((with_reducible refine (sj _).mono ?_); rintro e w' ⟨rfl, hb⟩)))
    have hb0 : Below w.heap.size w w' := (by repeat (first | assumption | exact Below.refl _ _ | refine below_drewN ?_ _ | refine below_alloc ?_ _ | refine below_then ?_ (by assumption)))
    go_loopw [9] (fun i wr => ∃ c : Int, i = .int .i64 c ∧ 1 ≤ c ∧ c ≤ 16 ∧ Below w.heap.size w wr) (fun i _ => (16 - intOf i).toNat)
    case atStart => exact ⟨1, rfl, by omega, by omega, hb0⟩
    case round =>
      obtain ⟨c, rfl, c1, c2, hbr⟩ := hrel
      clear hb0 hu hv
      by_cases g : c ≤ 15
      · have d1 := fun w => size_any4 c w
        have d2 := fun w => size_any4 (c - 1) w
        have d3 := fun w => slots_any c w
        have d4 := fun w => pages_any c w
        have f1 := size_rises c1 g
        have f2 := slots_pos (c := c) (by omega) g
        obtain ⟨f3, f4⟩ := pages_in (k := c) (by omega) g
        generalize sizeI c = x1 at *
        generalize sizeI (c - 1) = x2 at *
        generalize slotsI c = x3 at *
        generalize pagesI c = x4 at *
        go_wp2_with (first | (go_at_call 28; ((with_reducible refine (cc _).mono ?_); rintro e w' ⟨rfl, n, rfl⟩)) | (go_at_call 20; ((with_reducible refine (d1 _).mono ?_); rintro e w' ⟨rfl, hb⟩)) | (go_at_call 20; ((with_reducible refine (d2 _).mono ?_); rintro e w' ⟨rfl, hb⟩)) | (go_at_call 24; ((with_reducible refine (d3 _).mono ?_); rintro e w' ⟨rfl, hb⟩)) | (go_at_call 22; ((with_reducible refine (d4 _).mono ?_); rintro e w' ⟨rfl, hb⟩)))
        go_roundw
        case rel => exact ⟨c + 1, rfl, by omega, by omega, (by repeat (first | assumption | exact Below.refl _ _ | refine below_drewN ?_ _ | refine below_alloc ?_ _ | refine below_then ?_ (by assumption)))⟩
        case measure => simp [intOf]; omega
      · obtain rfl : c = 16 := by omega
        go_wp2_with (first | (go_at_call 28; ((with_reducible refine (cc _).mono ?_); rintro e w' ⟨rfl, n, rfl⟩)) | (go_at_call 19; ((with_reducible refine (ct _).mono ?_); rintro e w' ⟨rfl, hb⟩)) | (go_at_call 20; ((with_reducible refine (e1 _).mono ?_); rintro e w' ⟨rfl, hb⟩)) | (go_at_call 20; ((with_reducible refine (e2 _).mono ?_); rintro e w' ⟨rfl, hb⟩)) | (go_at_call 24; ((with_reducible refine (e3 _).mono ?_); rintro e w' ⟨rfl, hb⟩)) | (go_at_call 26; ((with_reducible refine (e4 _).mono ?_); rintro e w' ⟨rfl, hb⟩)))
        go_ret
        exact ⟨rfl, (by repeat (first | assumption | exact Below.refl _ _ | refine below_drewN ?_ _ | refine below_alloc ?_ _ | refine below_then ?_ (by assumption)))⟩

set_option maxRecDepth 100000 in
theorem lifted (os : Os) (started : os.Started) (H : Type) (enc : TypeId × Value → H) :
    ReturnsInHanded {} Try.checked os 9 .any (Rows.classRisesSpec.pre6 enc Try.prog Try.f9 Rows.classRisesRow.domain false) (Rows.classRisesSpec.post enc Try.prog Try.f9 false true false false) := by
  refine returnsInHanded_of_change (C := Try.checked) own started (by kernel_rfl) Try.func9
    (ChangeSpec.witness6 (enc := enc) (C := Try.checked) false ⟨#[], #[.int .i64 0, .int .i64 0], []⟩ 8 (by kernel_rfl) (by kernel_rfl) (by kernel_rfl) (by kernel_rfl)) ?_
  intro W base args ds gs before hval0 hW hcnd _
  have hval : ∀ (j : Nat) t v, Try.f9.params[j]? = some t → args[j]? = some v → Value.okWide Try.prog W .any base t v := hval0
  have hW' := hW
  obtain ⟨p, q, hA0, hV, rfl, hfz, hnd⟩ := hW
  have hA : DataW.TrodAll enc Try.prog W 0 (fun _ => true) true Try.f9.params.toList args.toList ds p := hA0
  rw [Try.params9] at hA hval
  obtain ⟨v0, vs0, d0, ds0, p0, q0, hargs, rfl, rfl, h0, r0⟩ := trodAll_cons hA
  obtain ⟨v1, vs1, d1, ds1, p1, q1, rfl, rfl, rfl, h1, r1⟩ := trodAll_cons r0
  obtain ⟨rfl, rfl, rfl⟩ := trodAll_nil r1
  obtain rfl : args = #[v0, v1] := by cases args; simp_all
  obtain ⟨rfl, rfl⟩ := trodVars_none hV
  obtain ⟨a0, rfl, rfl, rfl, w0⟩ := open_int Try.underlying3 (hval 0 3 v0 rfl rfl) h0
  obtain ⟨a1, rfl, rfl, rfl, w1⟩ := open_int Try.underlying3 (hval 1 3 v1 rfl rfl) h1
  clear hA0 hval0
  simp only [List.append_nil] at hW'
  refine (walk a0 a1 w0 w1 W).mono fun e W' ⟨he, hg⟩ => ?_
  subst he
  exact ⟨_, rfl, post_of_below (pa := []) (pv := []) hW' (fun _ _ _ => (trodAll_cons_mk (shut_bool Try.underlying4 _) trodAll_mk0)) (fun sp _ => (trodAll_cons_mk (shut_int Try.underlying3 w0) (trodAll_cons_mk (shut_int Try.underlying3 w1) trodAll_mk0))) (fun _ _ => rfl) rfl hg⟩

theorem over : Rows.classRisesRow.holds Try.pinned (OpenSpec.ofChange Rows.classRisesSpec) :=
  OpenClaim.holds_of_wide 9 Try.f9 rfl rfl rfl rfl rfl rfl rfl ⟨rfl, rfl, rfl, rfl, rfl⟩ rfl rfl rfl rfl rfl (by kernel_rfl) Try.func9 (by kernel_rfl)
    (of_decide_eq_true (by kernel_rfl)) (by unfold Func.isWrapper; first | (rw [if_pos (by decide +kernel)]; kernel_rfl) | (rw [if_neg (by decide +kernel)]; exact ⟨rfl, rfl⟩))
    (fun os started H enc _ => lifted os started H enc)

theorem proved : Rows.ClassRisesSaid :=
  over
#print axioms proved
end Go.Proofs.Ytongpnkejakceaa.classRises
