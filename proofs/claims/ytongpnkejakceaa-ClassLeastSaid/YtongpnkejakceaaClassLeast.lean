/- For any whole number the statement ClassLeast answers true and leaves its argument as it was: the class of a size from 1 to 256 is the least that holds it, what is lost at a span's end is at most an eighth, and fewer pages would lose more. No condition. -/
import Derived.Test.YtongpnkejakceaaClassRef
import Derived.WalkKit
import Derived.Deep.RegionHeld3
import Derived.ProofKit
import Derived.OpenShut
namespace Go.Proofs.Ytongpnkejakceaa.classLeast
open Go.ChangeShapes Go.WideShapes Go.ChangeAt Go.RowKit Go.Lib Fx Cl
set_option linter.unusedVariables false

theorem own : ownKnob Try.prog.godebug = none := by kernel_rfl

theorem of_size {c : Int} (h0 : 0 ≤ c) (h1 : c ≤ 15) : ofI (sizeI c) = c := each (p := fun c => ofI (sizeI c) = c) (by decide +kernel) h0 h1
theorem lost_in {c : Int} (h0 : 0 ≤ c) (h1 : c ≤ 15) : 1 ≤ slotsI c ∧ slotsI c ≤ 64 ∧ 8 * (pagesI c * 64 % sizeI c) ≤ pagesI c * 64 := each (p := fun c => 1 ≤ slotsI c ∧ slotsI c ≤ 64 ∧ 8 * (pagesI c * 64 % sizeI c) ≤ pagesI c * 64) (by decide +kernel) h0 h1
set_option maxRecDepth 100000 in
set_option maxHeartbeats 2000000 in
theorem walk (a0 : Int) (w0 : (Lit.int .i64 a0).wf = true) (w : World) :
    Calls Try.prog 8 #[.int .i64 a0] w fun e w' => e = .returned (.bool true) ∧ Below w.heap.size w w' := by
  have ct := fun w => told4_any w
  obtain ⟨Y, hY⟩ : ∃ Y : Int, IntKind.u64.wrap a0 = Y := ⟨_, rfl⟩
  have y0 : 0 ≤ Y := by rw [← hY, IntKind.wrap_u64]; omega
  obtain ⟨y, hy⟩ : ∃ y : Int, Y % 256 = y := ⟨_, rfl⟩
  have y1 : 0 ≤ y := by omega
  have y2 : y < 256 := by omega
  have co := fun w => of_any (1 + y) w
  obtain ⟨c0, c1, c2, c3⟩ := of_in (n := 1 + y) (by omega) (by omega)
  generalize ofI (1 + y) = c at *
  have cs := fun w => size_any4 c w
  have cd := fun w => size_any4 (c - 1) w
  have cp := fun w => pages_any c w
  have cl := fun w => slots_any c w
  have cq := fun w => of_any (sizeI c) w
  rw [of_size c0 c1] at cq
  obtain ⟨s1, s2⟩ := size_in c0 c1
  obtain ⟨p1, p2⟩ := pages_in c0 c1
  obtain ⟨l1, l2, l3⟩ := lost_in c0 c1
  have ht := fun p => pages_test (k := c) (p := p) c0 c1
  have hl : slotsI c = pagesI c * 64 / sizeI c := rfl
  obtain ⟨s, hs⟩ : ∃ s, sizeI c = s := ⟨_, rfl⟩
  obtain ⟨P, hP⟩ : ∃ P, pagesI c = P := ⟨_, rfl⟩
  obtain ⟨q, hq⟩ : ∃ q, slotsI c = q := ⟨_, rfl⟩
  obtain ⟨d, hd⟩ : ∃ d, sizeI (c - 1) = d := ⟨_, rfl⟩
  simp only [hs, hP, hq, hd] at *
  obtain ⟨r, hr⟩ : ∃ r : Int, P * 64 % s = r := ⟨_, rfl⟩
  have r0 : 0 ≤ r := by rw [← hr]; exact Int.emod_nonneg _ (by omega)
  rw [hr] at l3
  have ht : Hid (∀ p : Int, 1 ≤ p → p < P → ¬ (s ≤ p * 64 ∧ p * 64 % s * 8 ≤ p * 64)) := fun p h1 h2 h3 => by have := (ht p h1 (by omega)).2.1 h3; omega
  have hq1 : IntKind.i64.wrap ((P * 64).tdiv s) = q := by rw [Int.tdiv_eq_ediv_of_nonneg (by omega), ← hl]; exact IntWalk.i64_in q ⟨by omega, by omega⟩
  have hr1 : (P * 64).tmod s = r := by rw [Int.tmod_eq_emod_of_nonneg (by omega), hr]
  have hs0 : ¬ s = 0 := by omega
  have h8 : IntKind.i64.wrap (8 * r) = 8 * r := IntWalk.i64_in _ ⟨by omega, by omega⟩
  have g1 : decide (s < 1) = false := decide_eq_false (by omega)
  have g2 : decide (P * 64 < 8 * r) = false := decide_eq_false (by omega)
  have g3 : decide (q < 1) = false := decide_eq_false (by omega)
  have c3' : 0 < c → d < 1 + y := fun h => by omega
  clear hs hP hq hd hl hr c3
  rcases (show c = 0 ∨ 0 < c by omega) with hc | hc
  · subst hc
    clear cd c3'
    go_enter Try.func8, Try.ntmps8
    go_wp2_with (first | (go_at_call 26; ((with_reducible refine (co _).mono ?_); rintro e w' ⟨rfl, hb⟩)) | (go_at_call 20; ((with_reducible refine (cs _).mono ?_); rintro e w' ⟨rfl, hb⟩)) | (go_at_call 22; ((with_reducible refine (cp _).mono ?_); rintro e w' ⟨rfl, hb⟩)))
    have hb0 : Below w.heap.size w w' := (by repeat (first | assumption | exact Below.refl _ _ | refine below_drewN ?_ _ | refine below_alloc ?_ _ | refine below_then ?_ (by assumption)))
    go_region_held3 (fun W' => Below w.heap.size w W') (first | exact hb0.drew | exact below_then (by assumption) (by assumption)) (first | (go_at_call 24; ((with_reducible refine (cl _).mono ?_); rintro e w' ⟨rfl, hb⟩)))
    clear hb0
    go_wp2_with fail
    go_loopw [7] (fun i wr => ∃ p : Int, i = .int .i64 p ∧ 1 ≤ p ∧ p ≤ P ∧ Below w.heap.size w wr) (fun i _ => (P - intOf i).toNat)
    case atStart => exact ⟨1, rfl, by omega, by omega, by assumption⟩
    case round =>
      obtain ⟨p, rfl, q1, q2, hbr⟩ := hrel
      by_cases g : p < P
      · have hp := ht.out p q1 g
        obtain ⟨r', hr'⟩ : ∃ r : Int, p * 64 % s = r := ⟨_, rfl⟩
        have r0' : 0 ≤ r' := by rw [← hr']; exact Int.emod_nonneg _ (by omega)
        have r1' : r' < s := by rw [← hr']; exact Int.emod_lt_of_pos _ (by omega)
        rw [hr'] at hp
        by_cases g4 : s ≤ p * 64
        · have g5 : ¬ 8 * r' ≤ p * 64 := fun h => hp ⟨g4, by omega⟩
          clear hp ht
          go_wp2_with (first | (go_at_call 22; ((with_reducible refine (cp _).mono ?_); rintro e w' ⟨rfl, hb⟩)))
          go_roundw
          case rel => exact ⟨p + 1, rfl, by omega, by omega, (by repeat (first | assumption | exact Below.refl _ _ | refine below_drewN ?_ _ | refine below_alloc ?_ _ | refine below_then ?_ (by assumption)))⟩
          case measure => simp [intOf]; omega
        · clear hp ht
          go_wp2_with (first | (go_at_call 22; ((with_reducible refine (cp _).mono ?_); rintro e w' ⟨rfl, hb⟩)))
          go_roundw
          case rel => exact ⟨p + 1, rfl, by omega, by omega, (by repeat (first | assumption | exact Below.refl _ _ | refine below_drewN ?_ _ | refine below_alloc ?_ _ | refine below_then ?_ (by assumption)))⟩
          case measure => simp [intOf]; omega
      · clear ht
        go_wp2_with (first | (go_at_call 22; ((with_reducible refine (cp _).mono ?_); rintro e w' ⟨rfl, hb⟩)) | (go_at_call 19; ((with_reducible refine (ct _).mono ?_); rintro e w' ⟨rfl, hb⟩)) | (go_at_call 26; ((with_reducible refine (cq _).mono ?_); rintro e w' ⟨rfl, hb⟩)))
        go_ret
        exact ⟨rfl, (by repeat (first | assumption | exact Below.refl _ _ | refine below_drewN ?_ _ | refine below_alloc ?_ _ | refine below_then ?_ (by assumption)))⟩
  · have hc3 := c3' hc
    clear c3'
    go_enter Try.func8, Try.ntmps8
    go_wp2_with (first | (go_at_call 26; ((with_reducible refine (co _).mono ?_); rintro e w' ⟨rfl, hb⟩)) | (go_at_call 20; ((with_reducible refine (cs _).mono ?_); rintro e w' ⟨rfl, hb⟩)) | (go_at_call 20; ((with_reducible refine (cd _).mono ?_); rintro e w' ⟨rfl, hb⟩)) | (go_at_call 22; ((with_reducible refine (cp _).mono ?_); rintro e w' ⟨rfl, hb⟩)))
    have hb0 : Below w.heap.size w w' := (by repeat (first | assumption | exact Below.refl _ _ | refine below_drewN ?_ _ | refine below_alloc ?_ _ | refine below_then ?_ (by assumption)))
    go_region_held3 (fun W' => Below w.heap.size w W') (first | exact hb0.drew | exact below_then (by assumption) (by assumption)) (first | (go_at_call 24; ((with_reducible refine (cl _).mono ?_); rintro e w' ⟨rfl, hb⟩)))
    clear hb0
    go_wp2_with fail
    go_loopw [7] (fun i wr => ∃ p : Int, i = .int .i64 p ∧ 1 ≤ p ∧ p ≤ P ∧ Below w.heap.size w wr) (fun i _ => (P - intOf i).toNat)
    case atStart => exact ⟨1, rfl, by omega, by omega, by assumption⟩
    case round =>
      obtain ⟨p, rfl, q1, q2, hbr⟩ := hrel
      by_cases g : p < P
      · have hp := ht.out p q1 g
        obtain ⟨r', hr'⟩ : ∃ r : Int, p * 64 % s = r := ⟨_, rfl⟩
        have r0' : 0 ≤ r' := by rw [← hr']; exact Int.emod_nonneg _ (by omega)
        have r1' : r' < s := by rw [← hr']; exact Int.emod_lt_of_pos _ (by omega)
        rw [hr'] at hp
        by_cases g4 : s ≤ p * 64
        · have g5 : ¬ 8 * r' ≤ p * 64 := fun h => hp ⟨g4, by omega⟩
          clear hp ht
          go_wp2_with (first | (go_at_call 22; ((with_reducible refine (cp _).mono ?_); rintro e w' ⟨rfl, hb⟩)))
          go_roundw
          case rel => exact ⟨p + 1, rfl, by omega, by omega, (by repeat (first | assumption | exact Below.refl _ _ | refine below_drewN ?_ _ | refine below_alloc ?_ _ | refine below_then ?_ (by assumption)))⟩
          case measure => simp [intOf]; omega
        · clear hp ht
          go_wp2_with (first | (go_at_call 22; ((with_reducible refine (cp _).mono ?_); rintro e w' ⟨rfl, hb⟩)))
          go_roundw
          case rel => exact ⟨p + 1, rfl, by omega, by omega, (by repeat (first | assumption | exact Below.refl _ _ | refine below_drewN ?_ _ | refine below_alloc ?_ _ | refine below_then ?_ (by assumption)))⟩
          case measure => simp [intOf]; omega
      · clear ht
        go_wp2_with (first | (go_at_call 22; ((with_reducible refine (cp _).mono ?_); rintro e w' ⟨rfl, hb⟩)) | (go_at_call 19; ((with_reducible refine (ct _).mono ?_); rintro e w' ⟨rfl, hb⟩)) | (go_at_call 26; ((with_reducible refine (cq _).mono ?_); rintro e w' ⟨rfl, hb⟩)))
        go_ret
        exact ⟨rfl, (by repeat (first | assumption | exact Below.refl _ _ | refine below_drewN ?_ _ | refine below_alloc ?_ _ | refine below_then ?_ (by assumption)))⟩

set_option maxRecDepth 100000 in
theorem lifted (os : Os) (started : os.Started) (H : Type) (enc : TypeId × Value → H) :
    ReturnsInHanded {} Try.checked os 8 .any (Rows.classLeastSpec.pre6 enc Try.prog Try.f8 Rows.classLeastRow.domain false) (Rows.classLeastSpec.post enc Try.prog Try.f8 false true false false) := by
  refine returnsInHanded_of_change (C := Try.checked) own started (by kernel_rfl) Try.func8
    (ChangeSpec.witness6 (enc := enc) (C := Try.checked) false ⟨#[], #[.int .i64 0], []⟩ 8 (by kernel_rfl) (by kernel_rfl) (by kernel_rfl) (by kernel_rfl)) ?_
  intro W base args ds gs before hval0 hW hcnd _
  have hval : ∀ (j : Nat) t v, Try.f8.params[j]? = some t → args[j]? = some v → Value.okWide Try.prog W .any base t v := hval0
  have hW' := hW
  obtain ⟨p, q, hA0, hV, rfl, hfz, hnd⟩ := hW
  have hA : DataW.TrodAll enc Try.prog W 0 (fun _ => true) true Try.f8.params.toList args.toList ds p := hA0
  rw [Try.params8] at hA hval
  obtain ⟨v0, vs0, d0, ds0, p0, q0, hargs, rfl, rfl, h0, r0⟩ := trodAll_cons hA
  obtain ⟨rfl, rfl, rfl⟩ := trodAll_nil r0
  obtain rfl : args = #[v0] := by cases args; simp_all
  obtain ⟨rfl, rfl⟩ := trodVars_none hV
  obtain ⟨a0, rfl, rfl, rfl, w0⟩ := open_int Try.underlying3 (hval 0 3 v0 rfl rfl) h0
  clear hA0 hval0
  simp only [List.append_nil] at hW'
  refine (walk a0 w0 W).mono fun e W' ⟨he, hg⟩ => ?_
  subst he
  exact ⟨_, rfl, post_of_below (pa := []) (pv := []) hW' (fun _ _ _ => (trodAll_cons_mk (shut_bool Try.underlying4 _) trodAll_mk0)) (fun sp _ => (trodAll_cons_mk (shut_int Try.underlying3 w0) trodAll_mk0)) (fun _ _ => rfl) rfl hg⟩

theorem over : Rows.classLeastRow.holds Try.pinned (OpenSpec.ofChange Rows.classLeastSpec) :=
  OpenClaim.holds_of_wide 8 Try.f8 rfl rfl rfl rfl rfl rfl rfl ⟨rfl, rfl, rfl, rfl, rfl⟩ rfl rfl rfl rfl rfl (by kernel_rfl) Try.func8 (by kernel_rfl)
    (of_decide_eq_true (by kernel_rfl)) (by unfold Func.isWrapper; first | (rw [if_pos (by decide +kernel)]; kernel_rfl) | (rw [if_neg (by decide +kernel)]; exact ⟨rfl, rfl⟩))
    (fun os started H enc _ => lifted os started H enc)

theorem proved : Rows.ClassLeastSaid :=
  over
#print axioms proved
end Go.Proofs.Ytongpnkejakceaa.classLeast
