/- For any two configurations the statement ConfFloats answers true and leaves its arguments as they were: what floats come to, whether a machine may be of a configuration, and when two come to the same, are the document's own answers. No condition. -/
import Derived.Test.YtongpnkejakceaaConfMay
import Derived.Test.YtongpnkejakceaaConfSame
import Derived.WalkKit
import Derived.Lib.SmallJoins
import Derived.ProofKit
import Derived.OpenShut
namespace Go.Proofs.Ytongpnkejakceaa.confFloats
open Go.Joins
open Go.ChangeShapes Go.WideShapes Go.ChangeAt Go.RowKit Go.Lib Fx Fl
set_option linter.unusedVariables false

theorem own : ownKnob Try.prog.godebug = none := by kernel_rfl

theorem cells4 : Try.prog.cellsOf 24 = 4 := by kernel_rfl
section
variable {H : Type} {enc : TypeId × Value → H} {P : Program} {w : World} {base : Nat} {spare : Nat → Bool} {held : Bool} {fuel : Nat} {cs : List Value} {x : DataW H × List MemPlace} {t : TypeId}
theorem trod_float {k : FloatKind} (ht : P.underlying t = some (.float k)) (h : DataW.trod enc P w base spare held fuel t cs = some x) : ∃ n, cs = [.float k n] ∧ x = (.lit (.float k n), []) ∧ (Lit.float k n).wf = true := by
  cases fuel with
  | zero => simp [DataW.trod] at h
  | succ n =>
    unfold DataW.trod at h
    rw [ht] at h
    split at h <;> simp_all
end

set_option maxRecDepth 100000 in
set_option maxHeartbeats 2000000 in
theorem walk (p q : Int) (x y : Nat) (p' q' : Int) (x' y' : Nat) (w : World) :
    Calls Try.prog 3 #[.agg #[.int .i64 p, .int .i64 q, .float .f64 x, .float .f64 y], .agg #[.int .i64 p', .int .i64 q', .float .f64 x', .float .f64 y']] w fun e w' => e = .returned (.bool true) ∧ Below w.heap.size w w' := by
  have ct := fun w => told2_any w
  have cp := fun w => pct_any x w
  have cq := fun w => rpct_any x w
  have cr := fun w => rpct_any x' w
  have cm := fun w => may_any p q x y w
  have cn := fun w => rmay_any p q x y w
  have ca := fun w => part_any y w
  have cb := fun w => rpart_any y w
  have cc := fun w => rpart_any y' w
  have cs := fun w => same_any p q x y p' q' x' y' w
  have cz := fun w => same_any p q x y p q x y w
  rw [show sameB p q x y p q x y = true by simp [sameB]] at cz
  unfold sameB at cs
  generalize mayB p q = mb at *
  generalize pctI x = A at *
  generalize pctB x = B at *
  generalize pctI x' = A' at *
  generalize pctB x' = B' at *
  generalize partI y = D at *
  generalize partI y' = D' at *
  by_cases h1 : p = p'
  · have hy : decide (p = p') = true := decide_eq_true h1
    simp only [hy, Bool.true_and] at cs
    clear hy
    subst h1
    by_cases h2 : q = q'
    · have hy : decide (q = q') = true := decide_eq_true h2
      simp only [hy, Bool.true_and] at cs
      clear hy
      subst h2
      by_cases h3 : A = A'
      · have hy : decide (A = A') = true := decide_eq_true h3
        simp only [hy, Bool.true_and] at cs
        clear hy
        subst h3
        by_cases h4 : B = B'
        · subst h4
          simp only [BEq.rfl, Bool.true_and] at cs
          by_cases h5 : D = D'
          · have hy : decide (D = D') = true := decide_eq_true h5
            simp only [hy] at cs
            clear hy
            subst h5
            go_enter Try.func3, Try.ntmps3
            go_wp2_with (first | (go_at_call 10; ((with_reducible refine (cp _).mono ?_); rintro e w' ⟨rfl, n, rfl⟩)) | (go_at_call 11; ((with_reducible refine (cq _).mono ?_); rintro e w' ⟨rfl, n, rfl⟩)) | (go_at_call 11; ((with_reducible refine (cr _).mono ?_); rintro e w' ⟨rfl, n, rfl⟩)))
            go_quiet ((first | (go_at_call 12; with_reducible exact quiet_ans cb) | (go_at_call 12; with_reducible exact quiet_ans cc)))
            go_wp2_with fail
            generalize hW : World.drewN _ nq = W
            have hb0 : Below w.heap.size w W := by subst hW; repeat (first | assumption | exact Below.refl _ _ | refine below_drewN ?_ _ | refine below_alloc ?_ _ | refine below_then ?_ (by assumption))
            have d0 : W.cell? ⟨w.heap.size, 0, none⟩ = some (.int .i64 p) := by subst hW; go_simp
            have d1 : W.cell? ⟨w.heap.size, 1, none⟩ = some (.int .i64 q) := by subst hW; go_simp
            have d2 : W.cell? ⟨w.heap.size, 2, none⟩ = some (.float .f64 x) := by subst hW; go_simp
            have d3 : W.cell? ⟨w.heap.size, 3, none⟩ = some (.float .f64 y) := by subst hW; go_simp
            have d4 : W.cell? ⟨w.heap.size + 1, 0, none⟩ = some (.int .i64 p) := by subst hW; go_simp
            have d5 : W.cell? ⟨w.heap.size + 1, 1, none⟩ = some (.int .i64 q) := by subst hW; go_simp
            have d6 : W.cell? ⟨w.heap.size + 1, 2, none⟩ = some (.float .f64 x') := by subst hW; go_simp
            have d7 : W.cell? ⟨w.heap.size + 1, 3, none⟩ = some (.float .f64 y') := by subst hW; go_simp
            clear hW
            go_region_held3 (fun W' => Below w.heap.size w W' ∧ W'.cell? ⟨w.heap.size, 0, none⟩ = some (.int .i64 p) ∧ W'.cell? ⟨w.heap.size, 1, none⟩ = some (.int .i64 q) ∧ W'.cell? ⟨w.heap.size, 2, none⟩ = some (.float .f64 x) ∧ W'.cell? ⟨w.heap.size, 3, none⟩ = some (.float .f64 y) ∧ W'.cell? ⟨w.heap.size + 1, 0, none⟩ = some (.int .i64 p) ∧ W'.cell? ⟨w.heap.size + 1, 1, none⟩ = some (.int .i64 q) ∧ W'.cell? ⟨w.heap.size + 1, 2, none⟩ = some (.float .f64 x') ∧ W'.cell? ⟨w.heap.size + 1, 3, none⟩ = some (.float .f64 y')) (first | exact ⟨hb0.drew, d0, d1, d2, d3, d4, d5, d6, d7⟩ | go_keep | (go_split_ands; exact ⟨below_then (by assumption) (by assumption), cell_then (by assumption) (by assumption), cell_then (by assumption) (by assumption), cell_then (by assumption) (by assumption), cell_then (by assumption) (by assumption), cell_then (by assumption) (by assumption), cell_then (by assumption) (by assumption), cell_then (by assumption) (by assumption), cell_then (by assumption) (by assumption)⟩)) (first | (go_at_call 13; ((with_reducible refine (ct _).mono ?_); rintro e w' ⟨rfl, hb⟩)) | (go_at_call 14; ((with_reducible refine (cm _).mono ?_); rintro e w' ⟨rfl, hb⟩)) | (go_at_call 15; ((with_reducible refine (cn _).mono ?_); rintro e w' ⟨rfl, hb⟩)) | (go_at_call 16; ((with_reducible refine Calls.mono (ca _) ?_); intro e w' hans; obtain ⟨rfl, hb⟩ := Ans.below hans; clear hans)) | (go_at_call 12; ((with_reducible refine Calls.mono (cb _) ?_); intro e w' hans; obtain ⟨rfl, hb⟩ := Ans.below hans; clear hans)) | (go_at_call 17; ((with_reducible refine (cs _).mono ?_); rintro e w' ⟨rfl, hb⟩)) | (go_at_call 17; ((with_reducible refine (cz _).mono ?_); rintro e w' ⟨rfl, hb⟩)))
            go_split_ands
            go_wp2_with fail
            go_ret
            exact ⟨rfl, by assumption⟩
          · have hd : decide (D = D') = false := decide_eq_false h5
            have hd2 : (D == D') = false := by simpa using h5
            simp only [hd] at cs
            go_enter Try.func3, Try.ntmps3
            go_wp2_with (first | (go_at_call 10; ((with_reducible refine (cp _).mono ?_); rintro e w' ⟨rfl, n, rfl⟩)) | (go_at_call 11; ((with_reducible refine (cq _).mono ?_); rintro e w' ⟨rfl, n, rfl⟩)) | (go_at_call 11; ((with_reducible refine (cr _).mono ?_); rintro e w' ⟨rfl, n, rfl⟩)))
            go_quiet ((first | (go_at_call 12; with_reducible exact quiet_ans cb) | (go_at_call 12; with_reducible exact quiet_ans cc)))
            go_wp2_with fail
            generalize hW : World.drewN _ nq = W
            have hb0 : Below w.heap.size w W := by subst hW; repeat (first | assumption | exact Below.refl _ _ | refine below_drewN ?_ _ | refine below_alloc ?_ _ | refine below_then ?_ (by assumption))
            have d0 : W.cell? ⟨w.heap.size, 0, none⟩ = some (.int .i64 p) := by subst hW; go_simp
            have d1 : W.cell? ⟨w.heap.size, 1, none⟩ = some (.int .i64 q) := by subst hW; go_simp
            have d2 : W.cell? ⟨w.heap.size, 2, none⟩ = some (.float .f64 x) := by subst hW; go_simp
            have d3 : W.cell? ⟨w.heap.size, 3, none⟩ = some (.float .f64 y) := by subst hW; go_simp
            have d4 : W.cell? ⟨w.heap.size + 1, 0, none⟩ = some (.int .i64 p) := by subst hW; go_simp
            have d5 : W.cell? ⟨w.heap.size + 1, 1, none⟩ = some (.int .i64 q) := by subst hW; go_simp
            have d6 : W.cell? ⟨w.heap.size + 1, 2, none⟩ = some (.float .f64 x') := by subst hW; go_simp
            have d7 : W.cell? ⟨w.heap.size + 1, 3, none⟩ = some (.float .f64 y') := by subst hW; go_simp
            clear hW
            go_region_held3 (fun W' => Below w.heap.size w W' ∧ W'.cell? ⟨w.heap.size, 0, none⟩ = some (.int .i64 p) ∧ W'.cell? ⟨w.heap.size, 1, none⟩ = some (.int .i64 q) ∧ W'.cell? ⟨w.heap.size, 2, none⟩ = some (.float .f64 x) ∧ W'.cell? ⟨w.heap.size, 3, none⟩ = some (.float .f64 y) ∧ W'.cell? ⟨w.heap.size + 1, 0, none⟩ = some (.int .i64 p) ∧ W'.cell? ⟨w.heap.size + 1, 1, none⟩ = some (.int .i64 q) ∧ W'.cell? ⟨w.heap.size + 1, 2, none⟩ = some (.float .f64 x') ∧ W'.cell? ⟨w.heap.size + 1, 3, none⟩ = some (.float .f64 y')) (first | exact ⟨hb0.drew, d0, d1, d2, d3, d4, d5, d6, d7⟩ | go_keep | (go_split_ands; exact ⟨below_then (by assumption) (by assumption), cell_then (by assumption) (by assumption), cell_then (by assumption) (by assumption), cell_then (by assumption) (by assumption), cell_then (by assumption) (by assumption), cell_then (by assumption) (by assumption), cell_then (by assumption) (by assumption), cell_then (by assumption) (by assumption), cell_then (by assumption) (by assumption)⟩)) (first | (go_at_call 13; ((with_reducible refine (ct _).mono ?_); rintro e w' ⟨rfl, hb⟩)) | (go_at_call 14; ((with_reducible refine (cm _).mono ?_); rintro e w' ⟨rfl, hb⟩)) | (go_at_call 15; ((with_reducible refine (cn _).mono ?_); rintro e w' ⟨rfl, hb⟩)) | (go_at_call 16; ((with_reducible refine Calls.mono (ca _) ?_); intro e w' hans; obtain ⟨rfl, hb⟩ := Ans.below hans; clear hans)) | (go_at_call 12; ((with_reducible refine Calls.mono (cb _) ?_); intro e w' hans; obtain ⟨rfl, hb⟩ := Ans.below hans; clear hans)) | (go_at_call 17; ((with_reducible refine (cs _).mono ?_); rintro e w' ⟨rfl, hb⟩)) | (go_at_call 17; ((with_reducible refine (cz _).mono ?_); rintro e w' ⟨rfl, hb⟩)))
            go_split_ands
            go_wp2_with fail
            go_ret
            exact ⟨rfl, by assumption⟩
        · have hd2 : (B == B') = false := by simpa using h4
          simp only [hd2, Bool.false_and] at cs
          go_enter Try.func3, Try.ntmps3
          go_wp2_with (first | (go_at_call 10; ((with_reducible refine (cp _).mono ?_); rintro e w' ⟨rfl, n, rfl⟩)) | (go_at_call 11; ((with_reducible refine (cq _).mono ?_); rintro e w' ⟨rfl, n, rfl⟩)) | (go_at_call 11; ((with_reducible refine (cr _).mono ?_); rintro e w' ⟨rfl, n, rfl⟩)))
          go_quiet (fail)
          go_wp2_with fail
          generalize hW : World.drewN _ nq = W
          have hb0 : Below w.heap.size w W := by subst hW; repeat (first | assumption | exact Below.refl _ _ | refine below_drewN ?_ _ | refine below_alloc ?_ _ | refine below_then ?_ (by assumption))
          have d0 : W.cell? ⟨w.heap.size, 0, none⟩ = some (.int .i64 p) := by subst hW; go_simp
          have d1 : W.cell? ⟨w.heap.size, 1, none⟩ = some (.int .i64 q) := by subst hW; go_simp
          have d2 : W.cell? ⟨w.heap.size, 2, none⟩ = some (.float .f64 x) := by subst hW; go_simp
          have d3 : W.cell? ⟨w.heap.size, 3, none⟩ = some (.float .f64 y) := by subst hW; go_simp
          have d4 : W.cell? ⟨w.heap.size + 1, 0, none⟩ = some (.int .i64 p) := by subst hW; go_simp
          have d5 : W.cell? ⟨w.heap.size + 1, 1, none⟩ = some (.int .i64 q) := by subst hW; go_simp
          have d6 : W.cell? ⟨w.heap.size + 1, 2, none⟩ = some (.float .f64 x') := by subst hW; go_simp
          have d7 : W.cell? ⟨w.heap.size + 1, 3, none⟩ = some (.float .f64 y') := by subst hW; go_simp
          clear hW
          go_region_held3 (fun W' => Below w.heap.size w W' ∧ W'.cell? ⟨w.heap.size, 0, none⟩ = some (.int .i64 p) ∧ W'.cell? ⟨w.heap.size, 1, none⟩ = some (.int .i64 q) ∧ W'.cell? ⟨w.heap.size, 2, none⟩ = some (.float .f64 x) ∧ W'.cell? ⟨w.heap.size, 3, none⟩ = some (.float .f64 y) ∧ W'.cell? ⟨w.heap.size + 1, 0, none⟩ = some (.int .i64 p) ∧ W'.cell? ⟨w.heap.size + 1, 1, none⟩ = some (.int .i64 q) ∧ W'.cell? ⟨w.heap.size + 1, 2, none⟩ = some (.float .f64 x') ∧ W'.cell? ⟨w.heap.size + 1, 3, none⟩ = some (.float .f64 y')) (first | exact ⟨hb0.drew, d0, d1, d2, d3, d4, d5, d6, d7⟩ | go_keep | (go_split_ands; exact ⟨below_then (by assumption) (by assumption), cell_then (by assumption) (by assumption), cell_then (by assumption) (by assumption), cell_then (by assumption) (by assumption), cell_then (by assumption) (by assumption), cell_then (by assumption) (by assumption), cell_then (by assumption) (by assumption), cell_then (by assumption) (by assumption), cell_then (by assumption) (by assumption)⟩)) (first | (go_at_call 13; ((with_reducible refine (ct _).mono ?_); rintro e w' ⟨rfl, hb⟩)) | (go_at_call 14; ((with_reducible refine (cm _).mono ?_); rintro e w' ⟨rfl, hb⟩)) | (go_at_call 15; ((with_reducible refine (cn _).mono ?_); rintro e w' ⟨rfl, hb⟩)) | (go_at_call 16; ((with_reducible refine Calls.mono (ca _) ?_); intro e w' hans; obtain ⟨rfl, hb⟩ := Ans.below hans; clear hans)) | (go_at_call 12; ((with_reducible refine Calls.mono (cb _) ?_); intro e w' hans; obtain ⟨rfl, hb⟩ := Ans.below hans; clear hans)) | (go_at_call 17; ((with_reducible refine (cs _).mono ?_); rintro e w' ⟨rfl, hb⟩)) | (go_at_call 17; ((with_reducible refine (cz _).mono ?_); rintro e w' ⟨rfl, hb⟩)))
          go_split_ands
          go_wp2_with fail
          go_ret
          exact ⟨rfl, by assumption⟩
      · have hd : decide (A = A') = false := decide_eq_false h3
        have hd2 : (A == A') = false := by simpa using h3
        simp only [hd, Bool.false_and] at cs
        go_enter Try.func3, Try.ntmps3
        go_wp2_with (first | (go_at_call 10; ((with_reducible refine (cp _).mono ?_); rintro e w' ⟨rfl, n, rfl⟩)) | (go_at_call 11; ((with_reducible refine (cq _).mono ?_); rintro e w' ⟨rfl, n, rfl⟩)) | (go_at_call 11; ((with_reducible refine (cr _).mono ?_); rintro e w' ⟨rfl, n, rfl⟩)))
        go_quiet (fail)
        go_wp2_with fail
        generalize hW : World.drewN _ nq = W
        have hb0 : Below w.heap.size w W := by subst hW; repeat (first | assumption | exact Below.refl _ _ | refine below_drewN ?_ _ | refine below_alloc ?_ _ | refine below_then ?_ (by assumption))
        have d0 : W.cell? ⟨w.heap.size, 0, none⟩ = some (.int .i64 p) := by subst hW; go_simp
        have d1 : W.cell? ⟨w.heap.size, 1, none⟩ = some (.int .i64 q) := by subst hW; go_simp
        have d2 : W.cell? ⟨w.heap.size, 2, none⟩ = some (.float .f64 x) := by subst hW; go_simp
        have d3 : W.cell? ⟨w.heap.size, 3, none⟩ = some (.float .f64 y) := by subst hW; go_simp
        have d4 : W.cell? ⟨w.heap.size + 1, 0, none⟩ = some (.int .i64 p) := by subst hW; go_simp
        have d5 : W.cell? ⟨w.heap.size + 1, 1, none⟩ = some (.int .i64 q) := by subst hW; go_simp
        have d6 : W.cell? ⟨w.heap.size + 1, 2, none⟩ = some (.float .f64 x') := by subst hW; go_simp
        have d7 : W.cell? ⟨w.heap.size + 1, 3, none⟩ = some (.float .f64 y') := by subst hW; go_simp
        clear hW
        go_region_held3 (fun W' => Below w.heap.size w W' ∧ W'.cell? ⟨w.heap.size, 0, none⟩ = some (.int .i64 p) ∧ W'.cell? ⟨w.heap.size, 1, none⟩ = some (.int .i64 q) ∧ W'.cell? ⟨w.heap.size, 2, none⟩ = some (.float .f64 x) ∧ W'.cell? ⟨w.heap.size, 3, none⟩ = some (.float .f64 y) ∧ W'.cell? ⟨w.heap.size + 1, 0, none⟩ = some (.int .i64 p) ∧ W'.cell? ⟨w.heap.size + 1, 1, none⟩ = some (.int .i64 q) ∧ W'.cell? ⟨w.heap.size + 1, 2, none⟩ = some (.float .f64 x') ∧ W'.cell? ⟨w.heap.size + 1, 3, none⟩ = some (.float .f64 y')) (first | exact ⟨hb0.drew, d0, d1, d2, d3, d4, d5, d6, d7⟩ | go_keep | (go_split_ands; exact ⟨below_then (by assumption) (by assumption), cell_then (by assumption) (by assumption), cell_then (by assumption) (by assumption), cell_then (by assumption) (by assumption), cell_then (by assumption) (by assumption), cell_then (by assumption) (by assumption), cell_then (by assumption) (by assumption), cell_then (by assumption) (by assumption), cell_then (by assumption) (by assumption)⟩)) (first | (go_at_call 13; ((with_reducible refine (ct _).mono ?_); rintro e w' ⟨rfl, hb⟩)) | (go_at_call 14; ((with_reducible refine (cm _).mono ?_); rintro e w' ⟨rfl, hb⟩)) | (go_at_call 15; ((with_reducible refine (cn _).mono ?_); rintro e w' ⟨rfl, hb⟩)) | (go_at_call 16; ((with_reducible refine Calls.mono (ca _) ?_); intro e w' hans; obtain ⟨rfl, hb⟩ := Ans.below hans; clear hans)) | (go_at_call 12; ((with_reducible refine Calls.mono (cb _) ?_); intro e w' hans; obtain ⟨rfl, hb⟩ := Ans.below hans; clear hans)) | (go_at_call 17; ((with_reducible refine (cs _).mono ?_); rintro e w' ⟨rfl, hb⟩)) | (go_at_call 17; ((with_reducible refine (cz _).mono ?_); rintro e w' ⟨rfl, hb⟩)))
        go_split_ands
        go_wp2_with fail
        go_ret
        exact ⟨rfl, by assumption⟩
    · have hd : decide (q = q') = false := decide_eq_false h2
      have hd2 : (q == q') = false := by simpa using h2
      simp only [hd, Bool.false_and] at cs
      go_enter Try.func3, Try.ntmps3
      go_wp2_with (first | (go_at_call 10; ((with_reducible refine (cp _).mono ?_); rintro e w' ⟨rfl, n, rfl⟩)) | (go_at_call 11; ((with_reducible refine (cq _).mono ?_); rintro e w' ⟨rfl, n, rfl⟩)) | (go_at_call 11; ((with_reducible refine (cr _).mono ?_); rintro e w' ⟨rfl, n, rfl⟩)))
      go_quiet (fail)
      go_wp2_with fail
      generalize hW : World.drewN _ nq = W
      have hb0 : Below w.heap.size w W := by subst hW; repeat (first | assumption | exact Below.refl _ _ | refine below_drewN ?_ _ | refine below_alloc ?_ _ | refine below_then ?_ (by assumption))
      have d0 : W.cell? ⟨w.heap.size, 0, none⟩ = some (.int .i64 p) := by subst hW; go_simp
      have d1 : W.cell? ⟨w.heap.size, 1, none⟩ = some (.int .i64 q) := by subst hW; go_simp
      have d2 : W.cell? ⟨w.heap.size, 2, none⟩ = some (.float .f64 x) := by subst hW; go_simp
      have d3 : W.cell? ⟨w.heap.size, 3, none⟩ = some (.float .f64 y) := by subst hW; go_simp
      have d4 : W.cell? ⟨w.heap.size + 1, 0, none⟩ = some (.int .i64 p) := by subst hW; go_simp
      have d5 : W.cell? ⟨w.heap.size + 1, 1, none⟩ = some (.int .i64 q') := by subst hW; go_simp
      have d6 : W.cell? ⟨w.heap.size + 1, 2, none⟩ = some (.float .f64 x') := by subst hW; go_simp
      have d7 : W.cell? ⟨w.heap.size + 1, 3, none⟩ = some (.float .f64 y') := by subst hW; go_simp
      clear hW
      go_region_held3 (fun W' => Below w.heap.size w W' ∧ W'.cell? ⟨w.heap.size, 0, none⟩ = some (.int .i64 p) ∧ W'.cell? ⟨w.heap.size, 1, none⟩ = some (.int .i64 q) ∧ W'.cell? ⟨w.heap.size, 2, none⟩ = some (.float .f64 x) ∧ W'.cell? ⟨w.heap.size, 3, none⟩ = some (.float .f64 y) ∧ W'.cell? ⟨w.heap.size + 1, 0, none⟩ = some (.int .i64 p) ∧ W'.cell? ⟨w.heap.size + 1, 1, none⟩ = some (.int .i64 q') ∧ W'.cell? ⟨w.heap.size + 1, 2, none⟩ = some (.float .f64 x') ∧ W'.cell? ⟨w.heap.size + 1, 3, none⟩ = some (.float .f64 y')) (first | exact ⟨hb0.drew, d0, d1, d2, d3, d4, d5, d6, d7⟩ | go_keep | (go_split_ands; exact ⟨below_then (by assumption) (by assumption), cell_then (by assumption) (by assumption), cell_then (by assumption) (by assumption), cell_then (by assumption) (by assumption), cell_then (by assumption) (by assumption), cell_then (by assumption) (by assumption), cell_then (by assumption) (by assumption), cell_then (by assumption) (by assumption), cell_then (by assumption) (by assumption)⟩)) (first | (go_at_call 13; ((with_reducible refine (ct _).mono ?_); rintro e w' ⟨rfl, hb⟩)) | (go_at_call 14; ((with_reducible refine (cm _).mono ?_); rintro e w' ⟨rfl, hb⟩)) | (go_at_call 15; ((with_reducible refine (cn _).mono ?_); rintro e w' ⟨rfl, hb⟩)) | (go_at_call 16; ((with_reducible refine Calls.mono (ca _) ?_); intro e w' hans; obtain ⟨rfl, hb⟩ := Ans.below hans; clear hans)) | (go_at_call 12; ((with_reducible refine Calls.mono (cb _) ?_); intro e w' hans; obtain ⟨rfl, hb⟩ := Ans.below hans; clear hans)) | (go_at_call 17; ((with_reducible refine (cs _).mono ?_); rintro e w' ⟨rfl, hb⟩)) | (go_at_call 17; ((with_reducible refine (cz _).mono ?_); rintro e w' ⟨rfl, hb⟩)))
      go_split_ands
      go_wp2_with fail
      go_ret
      exact ⟨rfl, by assumption⟩
  · have hd : decide (p = p') = false := decide_eq_false h1
    have hd2 : (p == p') = false := by simpa using h1
    simp only [hd, Bool.false_and] at cs
    go_enter Try.func3, Try.ntmps3
    go_wp2_with (first | (go_at_call 10; ((with_reducible refine (cp _).mono ?_); rintro e w' ⟨rfl, n, rfl⟩)) | (go_at_call 11; ((with_reducible refine (cq _).mono ?_); rintro e w' ⟨rfl, n, rfl⟩)) | (go_at_call 11; ((with_reducible refine (cr _).mono ?_); rintro e w' ⟨rfl, n, rfl⟩)))
    go_quiet (fail)
    go_wp2_with fail
    generalize hW : World.drewN _ nq = W
    have hb0 : Below w.heap.size w W := by subst hW; repeat (first | assumption | exact Below.refl _ _ | refine below_drewN ?_ _ | refine below_alloc ?_ _ | refine below_then ?_ (by assumption))
    have d0 : W.cell? ⟨w.heap.size, 0, none⟩ = some (.int .i64 p) := by subst hW; go_simp
    have d1 : W.cell? ⟨w.heap.size, 1, none⟩ = some (.int .i64 q) := by subst hW; go_simp
    have d2 : W.cell? ⟨w.heap.size, 2, none⟩ = some (.float .f64 x) := by subst hW; go_simp
    have d3 : W.cell? ⟨w.heap.size, 3, none⟩ = some (.float .f64 y) := by subst hW; go_simp
    have d4 : W.cell? ⟨w.heap.size + 1, 0, none⟩ = some (.int .i64 p') := by subst hW; go_simp
    have d5 : W.cell? ⟨w.heap.size + 1, 1, none⟩ = some (.int .i64 q') := by subst hW; go_simp
    have d6 : W.cell? ⟨w.heap.size + 1, 2, none⟩ = some (.float .f64 x') := by subst hW; go_simp
    have d7 : W.cell? ⟨w.heap.size + 1, 3, none⟩ = some (.float .f64 y') := by subst hW; go_simp
    clear hW
    go_region_held3 (fun W' => Below w.heap.size w W' ∧ W'.cell? ⟨w.heap.size, 0, none⟩ = some (.int .i64 p) ∧ W'.cell? ⟨w.heap.size, 1, none⟩ = some (.int .i64 q) ∧ W'.cell? ⟨w.heap.size, 2, none⟩ = some (.float .f64 x) ∧ W'.cell? ⟨w.heap.size, 3, none⟩ = some (.float .f64 y) ∧ W'.cell? ⟨w.heap.size + 1, 0, none⟩ = some (.int .i64 p') ∧ W'.cell? ⟨w.heap.size + 1, 1, none⟩ = some (.int .i64 q') ∧ W'.cell? ⟨w.heap.size + 1, 2, none⟩ = some (.float .f64 x') ∧ W'.cell? ⟨w.heap.size + 1, 3, none⟩ = some (.float .f64 y')) (first | exact ⟨hb0.drew, d0, d1, d2, d3, d4, d5, d6, d7⟩ | go_keep | (go_split_ands; exact ⟨below_then (by assumption) (by assumption), cell_then (by assumption) (by assumption), cell_then (by assumption) (by assumption), cell_then (by assumption) (by assumption), cell_then (by assumption) (by assumption), cell_then (by assumption) (by assumption), cell_then (by assumption) (by assumption), cell_then (by assumption) (by assumption), cell_then (by assumption) (by assumption)⟩)) (first | (go_at_call 13; ((with_reducible refine (ct _).mono ?_); rintro e w' ⟨rfl, hb⟩)) | (go_at_call 14; ((with_reducible refine (cm _).mono ?_); rintro e w' ⟨rfl, hb⟩)) | (go_at_call 15; ((with_reducible refine (cn _).mono ?_); rintro e w' ⟨rfl, hb⟩)) | (go_at_call 16; ((with_reducible refine Calls.mono (ca _) ?_); intro e w' hans; obtain ⟨rfl, hb⟩ := Ans.below hans; clear hans)) | (go_at_call 12; ((with_reducible refine Calls.mono (cb _) ?_); intro e w' hans; obtain ⟨rfl, hb⟩ := Ans.below hans; clear hans)) | (go_at_call 17; ((with_reducible refine (cs _).mono ?_); rintro e w' ⟨rfl, hb⟩)) | (go_at_call 17; ((with_reducible refine (cz _).mono ?_); rintro e w' ⟨rfl, hb⟩)))
    go_split_ands
    go_wp2_with fail
    go_ret
    exact ⟨rfl, by assumption⟩

set_option maxRecDepth 100000 in
theorem lifted (os : Os) (started : os.Started) (H : Type) (enc : TypeId × Value → H) :
    ReturnsInHanded {} Try.checked os 3 .any (Rows.confFloatsSpec.pre6 enc Try.prog Try.f3 Rows.confFloatsRow.domain false) (Rows.confFloatsSpec.post enc Try.prog Try.f3 false true false false) := by
  refine returnsInHanded_of_change (C := Try.checked) own started (by kernel_rfl) Try.func3
    (ChangeSpec.witness6 (enc := enc) (C := Try.checked) false ⟨#[], #[.agg #[.int .i64 0, .int .i64 0, .float .f64 0, .float .f64 0], .agg #[.int .i64 0, .int .i64 0, .float .f64 0, .float .f64 0]], []⟩ 8 (by kernel_rfl) (by kernel_rfl) (by kernel_rfl) (by kernel_rfl)) ?_
  intro W base args ds gs before hval0 hW hcnd _
  have hval : ∀ (j : Nat) t v, Try.f3.params[j]? = some t → args[j]? = some v → Value.okWide Try.prog W .any base t v := hval0
  have hW' := hW
  obtain ⟨p, q, hA0, hV, rfl, hfz, hnd⟩ := hW
  have hA : DataW.TrodAll enc Try.prog W 0 (fun _ => true) true Try.f3.params.toList args.toList ds p := hA0
  rw [Try.params3] at hA hval
  obtain ⟨v0, vs0, d0, ds0, p0, q0, hargs, rfl, rfl, h0, r0⟩ := trodAll_cons hA
  obtain ⟨v1, vs1, d1, ds1, p1, q1, rfl, rfl, rfl, h1, r1⟩ := trodAll_cons r0
  obtain ⟨rfl, rfl, rfl⟩ := trodAll_nil r1
  obtain rfl : args = #[v0, v1] := by cases args; simp_all
  obtain ⟨rfl, rfl⟩ := trodVars_none hV
  obtain ⟨c0, c1, c2, c3, z0, z1, z2, z3, m, rfl, rfl, rfl, hz0, hz1, hz2, hz3⟩ := open_agg4 Try.underlying24 (by kernel_rfl) cells4 (hval 0 24 v0 rfl rfl) h0
  obtain ⟨c4, c5, c6, c7, z4, z5, z6, z7, m', rfl, rfl, rfl, hz4, hz5, hz6, hz7⟩ := open_agg4 Try.underlying24 (by kernel_rfl) cells4 (hval 1 24 v1 rfl rfl) h1
  obtain ⟨p, e0, rfl, w0⟩ := DataW.trod_int Try.underlying3 hz0
  obtain ⟨q, e1, rfl, w1⟩ := DataW.trod_int Try.underlying3 hz1
  obtain ⟨x, e2, rfl, w2⟩ := trod_float Try.underlying22 hz2
  obtain ⟨y, e3, rfl, w3⟩ := trod_float Try.underlying22 hz3
  obtain ⟨p', e4, rfl, w4⟩ := DataW.trod_int Try.underlying3 hz4
  obtain ⟨q', e5, rfl, w5⟩ := DataW.trod_int Try.underlying3 hz5
  obtain ⟨x', e6, rfl, w6⟩ := trod_float Try.underlying22 hz6
  obtain ⟨y', e7, rfl, w7⟩ := trod_float Try.underlying22 hz7
  simp at e0 e1 e2 e3 e4 e5 e6 e7
  subst e0 e1 e2 e3 e4 e5 e6 e7
  have reads : ∀ (W' : World) (sp : Nat → Bool) (p q : Int) (x y : Nat), (Lit.int .i64 p).wf = true → (Lit.int .i64 q).wf = true → (Lit.float .f64 x).wf = true → (Lit.float .f64 y).wf = true → DataW.Trod enc Try.prog W' 0 sp true 24 (.agg #[.int .i64 p, .int .i64 q, .float .f64 x, .float .f64 y]) (.agg [.lit (.int .i64 p), .lit (.int .i64 q), .lit (.float .f64 x), .lit (.float .f64 y)]) [] := fun W' sp p q x y k0 k1 k2 k3 =>
    shut_agg4 (y0 := (.lit (.int .i64 p), [])) (y1 := (.lit (.int .i64 q), [])) (y2 := (.lit (.float .f64 x), [])) (y3 := (.lit (.float .f64 y), [])) Try.underlying24 (by kernel_rfl) cells4 ⟨1, by simp [DataW.trod, Try.underlying3, k0]⟩ ⟨1, by simp [DataW.trod, Try.underlying3, k1]⟩ ⟨1, by simp [DataW.trod, Try.underlying22, k2]⟩ ⟨1, by simp [DataW.trod, Try.underlying22, k3]⟩
  clear hA0 hval0
  simp only [List.append_nil] at hW'
  refine (walk p q x y p' q' x' y' W).mono fun e W' ⟨he, hg⟩ => ?_
  subst he
  exact ⟨_, rfl, post_of_below (pa := []) (pv := []) hW' (fun _ _ _ => (trodAll_cons_mk (shut_bool Try.underlying4 _) trodAll_mk0)) (fun sp _ => (trodAll_cons_mk (reads _ sp p q x y w0 w1 w2 w3) (trodAll_cons_mk (reads _ sp p' q' x' y' w4 w5 w6 w7) trodAll_mk0))) (fun _ _ => rfl) rfl hg⟩

theorem over : Rows.confFloatsRow.holds Try.pinned (OpenSpec.ofChange Rows.confFloatsSpec) :=
  OpenClaim.holds_of_wide 3 Try.f3 rfl rfl rfl rfl rfl rfl rfl ⟨rfl, rfl, rfl, rfl, rfl⟩ rfl rfl rfl rfl rfl (by kernel_rfl) Try.func3 (by kernel_rfl)
    (of_decide_eq_true (by kernel_rfl)) (by unfold Func.isWrapper; first | (rw [if_pos (by decide +kernel)]; kernel_rfl) | (rw [if_neg (by decide +kernel)]; exact ⟨rfl, rfl⟩))
    (fun os started H enc _ => lifted os started H enc)

theorem proved : Rows.ConfFloatsSaid :=
  over
#print axioms proved
end Go.Proofs.Ytongpnkejakceaa.confFloats
