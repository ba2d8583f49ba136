/- At each of fifteen known floats rate's Text is the known text; RateKnown answers true for any number. No further condition but the listed tables. -/
import Derived.Test.YtinlbenifmcgaaaDoorFlArg
import Derived.Test.YtinlbenifmcgaaaDoorRateIns
import Derived.WalkKit
import Derived.ProofKit
import Derived.OpenShut
import Derived.Test.YtinlbenifmcgaaaDoorTie
import Derived.Test.YtinlbenifmcgaaaDoorCards
import Derived.LaidMore
import Derived.Stop.Joined
import Derived.SevenTiedAt
import Derived.Deep.RegionHeld3
namespace Go.Proofs.YtinlbenifmcgaaaDoor.rateKnown
open Go.ChangeShapes Go.WideShapes Go.ChangeAt Go.WideElems Go.RowKit Go.Lib Fx Ho Gr Pr Fk Fl Ieee Hm
set_option linter.unusedVariables false

theorem own : ownKnob Tryd.prog.godebug = none := by kernel_rfl

set_option maxRecDepth 100000 in
theorem dig0 (w : World) : Calls Tryd.prog 27 #[.int .i64 0] w (Still (.string ⟨#[48]⟩) w) := by
  go_enter Tryd.func27, Tryd.ntmps27
  go_wp2_with fail
  go_loopw [0, 3] (fun x s wr => ((x = .int .i64 0 ∧ s = .string ⟨#[]⟩)) ∧ wr = w) (fun x _ _ => (RowKit.intOf x).toNat)
  case atStart => exact ⟨⟨rfl, rfl⟩, rfl⟩
  case round =>
    obtain ⟨hr, rfl⟩ := hrel
    obtain ⟨rfl, rfl⟩ := hr
    go_wp2_with fail
    go_ret
    exact ⟨rfl, rfl⟩
set_option maxRecDepth 100000 in
theorem dig1 (w : World) : Calls Tryd.prog 27 #[.int .i64 1] w (Still (.string ⟨#[49]⟩) w) := by
  go_enter Tryd.func27, Tryd.ntmps27
  go_wp2_with fail
  go_loopw [0, 3] (fun x s wr => ((x = .int .i64 1 ∧ s = .string ⟨#[]⟩)) ∧ wr = w) (fun x _ _ => (RowKit.intOf x).toNat)
  case atStart => exact ⟨⟨rfl, rfl⟩, rfl⟩
  case round =>
    obtain ⟨hr, rfl⟩ := hrel
    obtain ⟨rfl, rfl⟩ := hr
    go_wp2_with fail
    go_ret
    exact ⟨rfl, rfl⟩
set_option maxRecDepth 100000 in
theorem dig99 (w : World) : Calls Tryd.prog 27 #[.int .i64 99] w (Still (.string ⟨#[57, 57]⟩) w) := by
  go_enter Tryd.func27, Tryd.ntmps27
  go_wp2_with fail
  go_loopw [0, 3] (fun x s wr => ((x = .int .i64 99 ∧ s = .string ⟨#[]⟩) ∨ (x = .int .i64 9 ∧ s = .string ⟨#[57]⟩)) ∧ wr = w) (fun x _ _ => (RowKit.intOf x).toNat)
  case atStart => exact ⟨Or.inl ⟨rfl, rfl⟩, rfl⟩
  case round =>
    obtain ⟨hr, rfl⟩ := hrel
    rcases hr with ⟨rfl, rfl⟩ | ⟨rfl, rfl⟩
    · go_wp2_with fail
      go_roundw
      case rel => first | (exact ⟨Or.inr (⟨rfl, rfl⟩), rfl⟩) | (exact ⟨Or.inr (⟨rfl, rfl⟩), trivial⟩) | simp
      case measure => decide
    · go_wp2_with fail
      go_ret
      exact ⟨rfl, rfl⟩
set_option maxRecDepth 100000 in
theorem dig100 (w : World) : Calls Tryd.prog 27 #[.int .i64 100] w (Still (.string ⟨#[49, 48, 48]⟩) w) := by
  go_enter Tryd.func27, Tryd.ntmps27
  go_wp2_with fail
  go_loopw [0, 3] (fun x s wr => ((x = .int .i64 100 ∧ s = .string ⟨#[]⟩) ∨ (x = .int .i64 10 ∧ s = .string ⟨#[48]⟩) ∨ (x = .int .i64 1 ∧ s = .string ⟨#[48, 48]⟩)) ∧ wr = w) (fun x _ _ => (RowKit.intOf x).toNat)
  case atStart => exact ⟨Or.inl ⟨rfl, rfl⟩, rfl⟩
  case round =>
    obtain ⟨hr, rfl⟩ := hrel
    rcases hr with ⟨rfl, rfl⟩ | ⟨rfl, rfl⟩ | ⟨rfl, rfl⟩
    · go_wp2_with fail
      go_roundw
      case rel => first | (exact ⟨Or.inr (Or.inl ⟨rfl, rfl⟩), rfl⟩) | (exact ⟨Or.inr (Or.inl ⟨rfl, rfl⟩), trivial⟩) | simp
      case measure => decide
    · go_wp2_with fail
      go_roundw
      case rel => first | (exact ⟨Or.inr (Or.inr (⟨rfl, rfl⟩)), rfl⟩) | (exact ⟨Or.inr (Or.inr (⟨rfl, rfl⟩)), trivial⟩) | simp
      case measure => decide
    · go_wp2_with fail
      go_ret
      exact ⟨rfl, rfl⟩
set_option maxRecDepth 100000 in
theorem dig1235 (w : World) : Calls Tryd.prog 27 #[.int .i64 1235] w (Still (.string ⟨#[49, 50, 51, 53]⟩) w) := by
  go_enter Tryd.func27, Tryd.ntmps27
  go_wp2_with fail
  go_loopw [0, 3] (fun x s wr => ((x = .int .i64 1235 ∧ s = .string ⟨#[]⟩) ∨ (x = .int .i64 123 ∧ s = .string ⟨#[53]⟩) ∨ (x = .int .i64 12 ∧ s = .string ⟨#[51, 53]⟩) ∨ (x = .int .i64 1 ∧ s = .string ⟨#[50, 51, 53]⟩)) ∧ wr = w) (fun x _ _ => (RowKit.intOf x).toNat)
  case atStart => exact ⟨Or.inl ⟨rfl, rfl⟩, rfl⟩
  case round =>
    obtain ⟨hr, rfl⟩ := hrel
    rcases hr with ⟨rfl, rfl⟩ | ⟨rfl, rfl⟩ | ⟨rfl, rfl⟩ | ⟨rfl, rfl⟩
    · go_wp2_with fail
      go_roundw
      case rel => first | (exact ⟨Or.inr (Or.inl ⟨rfl, rfl⟩), rfl⟩) | (exact ⟨Or.inr (Or.inl ⟨rfl, rfl⟩), trivial⟩) | simp
      case measure => decide
    · go_wp2_with fail
      go_roundw
      case rel => first | (exact ⟨Or.inr (Or.inr (Or.inl ⟨rfl, rfl⟩)), rfl⟩) | (exact ⟨Or.inr (Or.inr (Or.inl ⟨rfl, rfl⟩)), trivial⟩) | simp
      case measure => decide
    · go_wp2_with fail
      go_roundw
      case rel => first | (exact ⟨Or.inr (Or.inr (Or.inr (⟨rfl, rfl⟩))), rfl⟩) | (exact ⟨Or.inr (Or.inr (Or.inr (⟨rfl, rfl⟩))), trivial⟩) | simp
      case measure => decide
    · go_wp2_with fail
      go_ret
      exact ⟨rfl, rfl⟩
set_option maxRecDepth 100000 in
set_option maxHeartbeats 4000000 in
theorem walk (a0 : Int) (w : World) (hT : Tab w) (w0 : (Lit.int .i64 a0).wf = true) :
    Calls Tryd.prog 8 #[.int .i64 a0] w fun e w' => e = .returned (.bool true) ∧ Below w.heap.size w w' := by
  obtain ⟨t, ht⟩ : ∃ t, a0.tmod 15 = t := ⟨_, rfl⟩
  have ht1 : -15 < t ∧ t < 15 := by rw [← ht]; exact ⟨Int.lt_tmod_of_pos _ (by decide), Int.tmod_lt_of_pos _ (by decide)⟩
  obtain ⟨n, hn⟩ : ∃ n : Nat, (t + 15) % 15 = (n : Int) := ⟨((t + 15) % 15).toNat, by omega⟩
  obtain ⟨ht2, ht3⟩ := ht1
  have hn2 : n < 15 := by omega
  have ct := fun (W : World) (hW : Below w.heap.size w W) => told_any (hT.below hW)
  have cz := zero_any
  have hq1 : ∀ W, (binOp .quo 23 (.float .f64 4607182418800017408) (.float .f64 0)).run Tryd.prog W = .ok (.float .f64 9218868437227405312) W := fun W => run_float_arith W .quo 23 .f64 _ _ _ (by decide +kernel)
  have hg1 : ∀ W, (Op.unary .neg (.float .f64 0)).run Tryd.prog W = .ok (.float .f64 9223372036854775808) W := fun W => by kernel_rfl
  have hg2 : ∀ W, (Op.unary .neg (.float .f64 9218868437227405312)).run Tryd.prog W = .ok (.float .f64 18442240474082181120) W := fun W => by kernel_rfl
  have hs1 : ∀ W, (binOp .sub 23 (.float .f64 9218868437227405312) (.float .f64 9218868437227405312)).run Tryd.prog W = .ok (.float .f64 (nanB W 9218868437227405312 9218868437227405312)) W.drew := fun W => run_none (by simp [four]) 23 _ _ (by decide +kernel) W
  have hN := nanB_ok w 9218868437227405312 9218868437227405312
  obtain ⟨q, hqq⟩ : ∃ q, nanB w 9218868437227405312 9218868437227405312 = q := ⟨_, rfl⟩
  rw [hqq] at hN
  have hs2 : (binOp .sub 23 (.float .f64 9218868437227405312) (.float .f64 9218868437227405312)).run Tryd.prog w = .ok (.float .f64 q) w.drew := by rw [← hqq]; exact hs1 w
  clear hs1 hqq
  match n, hn2 with
  | 0, _ =>
    have hn : (t + 15) % 15 = 0 := hn
    have htx : TextS 0 = ⟨#[48, 37]⟩ := by decide +kernel
    have hwq : Wf 0 := by decide
    have cx := fun (W : World) (hW : Below w.heap.size w W) => text_any 0 hwq (hT.below hW)
    simp only [htx] at cx
    clear htx hwq hN hT
    go_enter Tryd.func8, Tryd.ntmps8
    go_wp2_with (first | (go_at_call 26; (with_reducible refine Calls.mono (cz _) ?_); rintro e w2 ⟨rfl, rfl⟩))
    generalize hwq : (World.alloc (World.alloc w _) _).drew = wq
    have hb0 : Below w.heap.size w wq := by rw [← hwq]; exact (below_alloc (below_alloc (Below.refl _ w) _) _).drew
    have hc0 : wq.cell? ⟨w.heap.size + 1, 0, none⟩ = some (.string ⟨#[48, 37]⟩) := by rw [← hwq]; exact cell_of (heap_new1 (size_new w _)) rfl
    clear hwq
    have hP1 : Hid (∀ V, Below wq.heap.size wq V → Calls Tryd.prog 11 #[] V fun e V2 => e = .returned (.bool true) ∧ V2.cell? ⟨w.heap.size + 1, 0, none⟩ = some (.string ⟨#[48, 37]⟩) ∧ Hid (∀ V3, Below V2.heap.size V2 V3 → Calls Tryd.prog 19 #[.float .f64 0] V3 fun e V4 => e = .returned (.string ⟨#[48, 37]⟩) ∧ V4.cell? ⟨w.heap.size + 1, 0, none⟩ = some (.string ⟨#[48, 37]⟩) ∧ Hid (Below w.heap.size w V4))) := Lib.hid fun V hV => by
      have b1 := hb0.trans (hV.mono hb0.size)
      refine (ct V b1).mono fun e V2 ⟨e1, k1⟩ => ⟨e1, cell_then k1 (cell_then hV hc0), Lib.hid fun V3 k2 => ?_⟩
      have b2 := b1.trans (k1.mono b1.size)
      have b3 := b2.trans (k2.mono b2.size)
      exact (cx V3 b3).mono fun e V4 ⟨e2, k3⟩ => ⟨e2, cell_then k3 (cell_then k2 (cell_then k1 (cell_then hV hc0))), Lib.hid (b3.trans (k3.mono b3.size))⟩
    have hbd : Below wq.heap.size wq wq.drew := (Below.refl _ _).drew
    clear ct cx hb0
    go_wp2_with fail
    go_region_held3 (fun W' => W'.cell? ⟨w.heap.size + 1, 0, none⟩ = some (.string ⟨#[48, 37]⟩)) (first | exact hc0 | go_keep | assumption | exact cell_then (by assumption) (by assumption)) (first | (go_at_call 11; ((with_reducible refine (hP1.out _ (by repeat (first | assumption | exact Below.refl _ _ | refine below_drewN ?_ _ | refine below_alloc ?_ _ | refine below_then ?_ (by assumption)))).mono ?_); rintro e wy ⟨rfl, hky, hP2⟩)) | (go_at_call 19; ((with_reducible refine (hP2.out _ (by repeat (first | assumption | exact Below.refl _ _ | refine below_drewN ?_ _ | refine below_alloc ?_ _ | refine below_then ?_ (by assumption)))).mono ?_); rintro e wz ⟨rfl, hkz, hEnd⟩)))
    all_goals
      go_wp2_with fail
      go_ret
      exact ⟨rfl, hEnd.out⟩
  | 1, _ =>
    have hn : (t + 15) % 15 = 1 := hn
    have htx : TextS 9223372036854775808 = ⟨#[45, 48, 37]⟩ := by decide +kernel
    have hwq : Wf 9223372036854775808 := by decide
    have cx := fun (W : World) (hW : Below w.heap.size w W) => text_any 9223372036854775808 hwq (hT.below hW)
    simp only [htx] at cx
    clear htx hwq hN hT
    have hq3 : ∀ W, (binOp .quo 23 (.float .f64 13830554455654793216) (.float .f64 9218868437227405312)).run Tryd.prog W = .ok (.float .f64 9223372036854775808) W := fun W => run_float_arith W .quo 23 .f64 _ _ _ (by decide +kernel)
    go_enter Tryd.func8, Tryd.ntmps8
    go_wp2_with (first | (go_at_call 26; (with_reducible refine Calls.mono (cz _) ?_); rintro e w2 ⟨rfl, rfl⟩))
    generalize hwq : (World.alloc (World.alloc w _) _).drew = wq
    have hb0 : Below w.heap.size w wq := by rw [← hwq]; exact (below_alloc (below_alloc (Below.refl _ w) _) _).drew
    clear hwq
    replace hb0 := Lib.hid hb0
    with_reducible refine Calls.mono (ct _ hb0.out) ?_
    rintro e w3 ⟨rfl, hb⟩
    have hB := Lib.hid (hb0.out.trans (hb.mono hb0.out.size))
    clear ct hb hb0
    go_wp2_with fail
    with_reducible refine Calls.mono (cx _ hB.out) ?_
    rintro e w4 ⟨rfl, hb⟩
    replace hB := Lib.hid (hB.out.trans (hb.mono hB.out.size))
    clear cx hb
    go_wp2_with fail
    go_ret
    exact ⟨rfl, hB.out⟩
  | 2, _ =>
    have hn : (t + 15) % 15 = 2 := hn
    have htx : TextS 4607182418800017408 = ⟨#[49, 48, 48, 37]⟩ := by decide +kernel
    have hwq : Wf 4607182418800017408 := by decide
    have cx := fun (W : World) (hW : Below w.heap.size w W) => text_any 4607182418800017408 hwq (hT.below hW)
    simp only [htx] at cx
    clear htx hwq hN hT
    go_enter Tryd.func8, Tryd.ntmps8
    go_wp2_with (first | (go_at_call 26; (with_reducible refine Calls.mono (cz _) ?_); rintro e w2 ⟨rfl, rfl⟩))
    generalize hwq : (World.alloc (World.alloc w _) _).drew = wq
    have hb0 : Below w.heap.size w wq := by rw [← hwq]; exact (below_alloc (below_alloc (Below.refl _ w) _) _).drew
    have hc0 : wq.cell? ⟨w.heap.size + 1, 2, none⟩ = some (.string ⟨#[49, 48, 48, 37]⟩) := by rw [← hwq]; exact cell_of (heap_new1 (size_new w _)) rfl
    clear hwq
    have hP1 : Hid (∀ V, Below wq.heap.size wq V → Calls Tryd.prog 11 #[] V fun e V2 => e = .returned (.bool true) ∧ V2.cell? ⟨w.heap.size + 1, 2, none⟩ = some (.string ⟨#[49, 48, 48, 37]⟩) ∧ Hid (∀ V3, Below V2.heap.size V2 V3 → Calls Tryd.prog 19 #[.float .f64 4607182418800017408] V3 fun e V4 => e = .returned (.string ⟨#[49, 48, 48, 37]⟩) ∧ V4.cell? ⟨w.heap.size + 1, 2, none⟩ = some (.string ⟨#[49, 48, 48, 37]⟩) ∧ Hid (Below w.heap.size w V4))) := Lib.hid fun V hV => by
      have b1 := hb0.trans (hV.mono hb0.size)
      refine (ct V b1).mono fun e V2 ⟨e1, k1⟩ => ⟨e1, cell_then k1 (cell_then hV hc0), Lib.hid fun V3 k2 => ?_⟩
      have b2 := b1.trans (k1.mono b1.size)
      have b3 := b2.trans (k2.mono b2.size)
      exact (cx V3 b3).mono fun e V4 ⟨e2, k3⟩ => ⟨e2, cell_then k3 (cell_then k2 (cell_then k1 (cell_then hV hc0))), Lib.hid (b3.trans (k3.mono b3.size))⟩
    have hbd : Below wq.heap.size wq wq.drew := (Below.refl _ _).drew
    clear ct cx hb0
    go_wp2_with fail
    go_region_held3 (fun W' => W'.cell? ⟨w.heap.size + 1, 2, none⟩ = some (.string ⟨#[49, 48, 48, 37]⟩)) (first | exact hc0 | go_keep | assumption | exact cell_then (by assumption) (by assumption)) (first | (go_at_call 11; ((with_reducible refine (hP1.out _ (by repeat (first | assumption | exact Below.refl _ _ | refine below_drewN ?_ _ | refine below_alloc ?_ _ | refine below_then ?_ (by assumption)))).mono ?_); rintro e wy ⟨rfl, hky, hP2⟩)) | (go_at_call 19; ((with_reducible refine (hP2.out _ (by repeat (first | assumption | exact Below.refl _ _ | refine below_drewN ?_ _ | refine below_alloc ?_ _ | refine below_then ?_ (by assumption)))).mono ?_); rintro e wz ⟨rfl, hkz, hEnd⟩)))
    all_goals
      go_wp2_with fail
      go_ret
      exact ⟨rfl, hEnd.out⟩
  | 3, _ =>
    have hn : (t + 15) % 15 = 3 := hn
    have htx : TextS 13830554455654793216 = ⟨#[45, 49, 48, 48, 37]⟩ := by decide +kernel
    have hwq : Wf 13830554455654793216 := by decide
    have cx := fun (W : World) (hW : Below w.heap.size w W) => text_any 13830554455654793216 hwq (hT.below hW)
    simp only [htx] at cx
    clear htx hwq hN hT
    go_enter Tryd.func8, Tryd.ntmps8
    go_wp2_with (first | (go_at_call 26; (with_reducible refine Calls.mono (cz _) ?_); rintro e w2 ⟨rfl, rfl⟩))
    generalize hwq : (World.alloc (World.alloc w _) _).drew = wq
    have hb0 : Below w.heap.size w wq := by rw [← hwq]; exact (below_alloc (below_alloc (Below.refl _ w) _) _).drew
    have hc0 : wq.cell? ⟨w.heap.size + 1, 3, none⟩ = some (.string ⟨#[45, 49, 48, 48, 37]⟩) := by rw [← hwq]; exact cell_of (heap_new1 (size_new w _)) rfl
    clear hwq
    have hP1 : Hid (∀ V, Below wq.heap.size wq V → Calls Tryd.prog 11 #[] V fun e V2 => e = .returned (.bool true) ∧ V2.cell? ⟨w.heap.size + 1, 3, none⟩ = some (.string ⟨#[45, 49, 48, 48, 37]⟩) ∧ Hid (∀ V3, Below V2.heap.size V2 V3 → Calls Tryd.prog 19 #[.float .f64 13830554455654793216] V3 fun e V4 => e = .returned (.string ⟨#[45, 49, 48, 48, 37]⟩) ∧ V4.cell? ⟨w.heap.size + 1, 3, none⟩ = some (.string ⟨#[45, 49, 48, 48, 37]⟩) ∧ Hid (Below w.heap.size w V4))) := Lib.hid fun V hV => by
      have b1 := hb0.trans (hV.mono hb0.size)
      refine (ct V b1).mono fun e V2 ⟨e1, k1⟩ => ⟨e1, cell_then k1 (cell_then hV hc0), Lib.hid fun V3 k2 => ?_⟩
      have b2 := b1.trans (k1.mono b1.size)
      have b3 := b2.trans (k2.mono b2.size)
      exact (cx V3 b3).mono fun e V4 ⟨e2, k3⟩ => ⟨e2, cell_then k3 (cell_then k2 (cell_then k1 (cell_then hV hc0))), Lib.hid (b3.trans (k3.mono b3.size))⟩
    have hbd : Below wq.heap.size wq wq.drew := (Below.refl _ _).drew
    clear ct cx hb0
    go_wp2_with fail
    go_region_held3 (fun W' => W'.cell? ⟨w.heap.size + 1, 3, none⟩ = some (.string ⟨#[45, 49, 48, 48, 37]⟩)) (first | exact hc0 | go_keep | assumption | exact cell_then (by assumption) (by assumption)) (first | (go_at_call 11; ((with_reducible refine (hP1.out _ (by repeat (first | assumption | exact Below.refl _ _ | refine below_drewN ?_ _ | refine below_alloc ?_ _ | refine below_then ?_ (by assumption)))).mono ?_); rintro e wy ⟨rfl, hky, hP2⟩)) | (go_at_call 19; ((with_reducible refine (hP2.out _ (by repeat (first | assumption | exact Below.refl _ _ | refine below_drewN ?_ _ | refine below_alloc ?_ _ | refine below_then ?_ (by assumption)))).mono ?_); rintro e wz ⟨rfl, hkz, hEnd⟩)))
    all_goals
      go_wp2_with fail
      go_ret
      exact ⟨rfl, hEnd.out⟩
  | 4, _ =>
    have hn : (t + 15) % 15 = 4 := hn
    have htx : TextS 4572414629676717179 = ⟨#[49, 37]⟩ := by decide +kernel
    have hwq : Wf 4572414629676717179 := by decide
    have cx := fun (W : World) (hW : Below w.heap.size w W) => text_any 4572414629676717179 hwq (hT.below hW)
    simp only [htx] at cx
    clear htx hwq hN hT
    have hm1 : ∀ W, (binOp .mul 23 (.float .f64 4572414629676717179) (.float .f64 4636737291354636288)).run Tryd.prog W = .ok (.float .f64 4602678819172646912) W := fun W => run_float_arith W .mul 23 .f64 _ _ _ (by decide +kernel)
    have hcc : ∀ W, (convert 23 3 (.float .f64 4602678819172646912)).run Tryd.prog W = .ok (.int .i64 0) W := fun W => run_convert_float_int W 23 3 .f64 .i64 _ _ (by rw [Tryd.underlying23]; rfl) Tryd.underlying3 (by decide +kernel)
    have hfi : floatOfInt .f64 0 = 0 := by decide +kernel
    have hsb : ∀ W, (binOp .sub 23 (.float .f64 4602678819172646912) (.float .f64 0)).run Tryd.prog W = .ok (.float .f64 4602678819172646912) W := fun W => run_float_arith W .sub 23 .f64 _ _ _ (by decide +kernel)
    have hoz : FloatKind.f64.format.order 4602678819172646912 4602678819172646912 = some .eq := by decide +kernel
    have cd := dig1
    have hap : (([49, 37] : List UInt8) == ((⟨#[49]⟩ : ByteArray) ++ ⟨#[37]⟩).toList) = true := by decide +kernel
    go_enter Tryd.func8, Tryd.ntmps8
    go_wp2_with (first | (go_at_call 26; (with_reducible refine Calls.mono (cz _) ?_); rintro e w2 ⟨rfl, rfl⟩))
    generalize hwq : (World.alloc (World.alloc w _) _).drew = wq
    have hb0 : Below w.heap.size w wq := by rw [← hwq]; exact (below_alloc (below_alloc (Below.refl _ w) _) _).drew
    clear hwq
    replace hb0 := Lib.hid hb0
    with_reducible refine Calls.mono (ct _ hb0.out) ?_
    rintro e w3 ⟨rfl, hb⟩
    have hB := Lib.hid (hb0.out.trans (hb.mono hb0.out.size))
    clear ct hb hb0
    go_wp2_with fail
    with_reducible refine Calls.mono (cx _ hB.out) ?_
    rintro e w4 ⟨rfl, hb⟩
    replace hB := Lib.hid (hB.out.trans (hb.mono hB.out.size))
    clear cx hb
    go_wp2_with fail
    with_reducible refine Calls.mono (cd _) ?_
    rintro e w5 ⟨rfl, rfl⟩
    clear cd
    go_wp2_with fail
    go_ret
    exact ⟨rfl, hB.out⟩
  | 5, _ =>
    have hn : (t + 15) % 15 = 5 := hn
    have htx : TextS 4572299337526256494 = ⟨#[48, 37]⟩ := by decide +kernel
    have hwq : Wf 4572299337526256494 := by decide
    have cx := fun (W : World) (hW : Below w.heap.size w W) => text_any 4572299337526256494 hwq (hT.below hW)
    simp only [htx] at cx
    clear htx hwq hN hT
    have hm1 : ∀ W, (binOp .mul 23 (.float .f64 4572299337526256494) (.float .f64 4636737291354636288)).run Tryd.prog W = .ok (.float .f64 4602498675187552092) W := fun W => run_float_arith W .mul 23 .f64 _ _ _ (by decide +kernel)
    have hcc : ∀ W, (convert 23 3 (.float .f64 4602498675187552092)).run Tryd.prog W = .ok (.int .i64 0) W := fun W => run_convert_float_int W 23 3 .f64 .i64 _ _ (by rw [Tryd.underlying23]; rfl) Tryd.underlying3 (by decide +kernel)
    have hfi : floatOfInt .f64 0 = 0 := by decide +kernel
    have hsb : ∀ W, (binOp .sub 23 (.float .f64 4602498675187552092) (.float .f64 0)).run Tryd.prog W = .ok (.float .f64 4602498675187552092) W := fun W => run_float_arith W .sub 23 .f64 _ _ _ (by decide +kernel)
    have hoz : FloatKind.f64.format.order 4602498675187552092 4602678819172646912 = some .lt := by decide +kernel
    have cd := dig0
    have hap : (([48, 37] : List UInt8) == ((⟨#[48]⟩ : ByteArray) ++ ⟨#[37]⟩).toList) = true := by decide +kernel
    go_enter Tryd.func8, Tryd.ntmps8
    go_wp2_with (first | (go_at_call 26; (with_reducible refine Calls.mono (cz _) ?_); rintro e w2 ⟨rfl, rfl⟩))
    generalize hwq : (World.alloc (World.alloc w _) _).drew = wq
    have hb0 : Below w.heap.size w wq := by rw [← hwq]; exact (below_alloc (below_alloc (Below.refl _ w) _) _).drew
    clear hwq
    replace hb0 := Lib.hid hb0
    with_reducible refine Calls.mono (ct _ hb0.out) ?_
    rintro e w3 ⟨rfl, hb⟩
    have hB := Lib.hid (hb0.out.trans (hb.mono hb0.out.size))
    clear ct hb hb0
    go_wp2_with fail
    with_reducible refine Calls.mono (cx _ hB.out) ?_
    rintro e w4 ⟨rfl, hb⟩
    replace hB := Lib.hid (hB.out.trans (hb.mono hB.out.size))
    clear cx hb
    go_wp2_with fail
    with_reducible refine Calls.mono (cd _) ?_
    rintro e w5 ⟨rfl, rfl⟩
    clear cd
    go_wp2_with fail
    go_ret
    exact ⟨rfl, hB.out⟩
  | 6, _ =>
    have hn : (t + 15) % 15 = 6 := hn
    have htx : TextS 4607128375604488962 = ⟨#[57, 57, 37]⟩ := by decide +kernel
    have hwq : Wf 4607128375604488962 := by decide
    have cx := fun (W : World) (hW : Below w.heap.size w W) => text_any 4607128375604488962 hwq (hT.below hW)
    simp only [htx] at cx
    clear htx hwq hN hT
    have hm1 : ∀ W, (binOp .mul 23 (.float .f64 4607128375604488962) (.float .f64 4636737291354636288)).run Tryd.prog W = .ok (.float .f64 4636695070108129690) W := fun W => run_float_arith W .mul 23 .f64 _ _ _ (by decide +kernel)
    have hcc : ∀ W, (convert 23 3 (.float .f64 4636695070108129690)).run Tryd.prog W = .ok (.int .i64 99) W := fun W => run_convert_float_int W 23 3 .f64 .i64 _ _ (by rw [Tryd.underlying23]; rfl) Tryd.underlying3 (by decide +kernel)
    have hfi : floatOfInt .f64 99 = 4636666922610458624 := by decide +kernel
    have hsb : ∀ W, (binOp .sub 23 (.float .f64 4636695070108129690) (.float .f64 4636666922610458624)).run Tryd.prog W = .ok (.float .f64 4600877379321698816) W := fun W => run_float_arith W .sub 23 .f64 _ _ _ (by decide +kernel)
    have hoz : FloatKind.f64.format.order 4600877379321698816 4602678819172646912 = some .lt := by decide +kernel
    have cd := dig99
    have hap : (([57, 57, 37] : List UInt8) == ((⟨#[57, 57]⟩ : ByteArray) ++ ⟨#[37]⟩).toList) = true := by decide +kernel
    go_enter Tryd.func8, Tryd.ntmps8
    go_wp2_with (first | (go_at_call 26; (with_reducible refine Calls.mono (cz _) ?_); rintro e w2 ⟨rfl, rfl⟩))
    generalize hwq : (World.alloc (World.alloc w _) _).drew = wq
    have hb0 : Below w.heap.size w wq := by rw [← hwq]; exact (below_alloc (below_alloc (Below.refl _ w) _) _).drew
    clear hwq
    replace hb0 := Lib.hid hb0
    with_reducible refine Calls.mono (ct _ hb0.out) ?_
    rintro e w3 ⟨rfl, hb⟩
    have hB := Lib.hid (hb0.out.trans (hb.mono hb0.out.size))
    clear ct hb hb0
    go_wp2_with fail
    with_reducible refine Calls.mono (cx _ hB.out) ?_
    rintro e w4 ⟨rfl, hb⟩
    replace hB := Lib.hid (hB.out.trans (hb.mono hB.out.size))
    clear cx hb
    go_wp2_with fail
    with_reducible refine Calls.mono (cd _) ?_
    rintro e w5 ⟨rfl, rfl⟩
    clear cd
    go_wp2_with fail
    go_ret
    exact ⟨rfl, hB.out⟩
  | 7, _ =>
    have hn : (t + 15) % 15 = 7 := hn
    have htx : TextS 4607137382803743703 = ⟨#[49, 48, 48, 37]⟩ := by decide +kernel
    have hwq : Wf 4607137382803743703 := by decide
    have cx := fun (W : World) (hW : Below w.heap.size w W) => text_any 4607137382803743703 hwq (hT.below hW)
    simp only [htx] at cx
    clear htx hwq hN hT
    have hm1 : ∀ W, (binOp .mul 23 (.float .f64 4607137382803743703) (.float .f64 4636737291354636288)).run Tryd.prog W = .ok (.float .f64 4636702106982547456) W := fun W => run_float_arith W .mul 23 .f64 _ _ _ (by decide +kernel)
    have hcc : ∀ W, (convert 23 3 (.float .f64 4636702106982547456)).run Tryd.prog W = .ok (.int .i64 99) W := fun W => run_convert_float_int W 23 3 .f64 .i64 _ _ (by rw [Tryd.underlying23]; rfl) Tryd.underlying3 (by decide +kernel)
    have hfi : floatOfInt .f64 99 = 4636666922610458624 := by decide +kernel
    have hsb : ∀ W, (binOp .sub 23 (.float .f64 4636702106982547456) (.float .f64 4636666922610458624)).run Tryd.prog W = .ok (.float .f64 4602678819172646912) W := fun W => run_float_arith W .sub 23 .f64 _ _ _ (by decide +kernel)
    have hoz : FloatKind.f64.format.order 4602678819172646912 4602678819172646912 = some .eq := by decide +kernel
    have cd := dig100
    have hap : (([49, 48, 48, 37] : List UInt8) == ((⟨#[49, 48, 48]⟩ : ByteArray) ++ ⟨#[37]⟩).toList) = true := by decide +kernel
    go_enter Tryd.func8, Tryd.ntmps8
    go_wp2_with (first | (go_at_call 26; (with_reducible refine Calls.mono (cz _) ?_); rintro e w2 ⟨rfl, rfl⟩))
    generalize hwq : (World.alloc (World.alloc w _) _).drew = wq
    have hb0 : Below w.heap.size w wq := by rw [← hwq]; exact (below_alloc (below_alloc (Below.refl _ w) _) _).drew
    clear hwq
    replace hb0 := Lib.hid hb0
    with_reducible refine Calls.mono (ct _ hb0.out) ?_
    rintro e w3 ⟨rfl, hb⟩
    have hB := Lib.hid (hb0.out.trans (hb.mono hb0.out.size))
    clear ct hb hb0
    go_wp2_with fail
    with_reducible refine Calls.mono (cx _ hB.out) ?_
    rintro e w4 ⟨rfl, hb⟩
    replace hB := Lib.hid (hB.out.trans (hb.mono hB.out.size))
    clear cx hb
    go_wp2_with fail
    with_reducible refine Calls.mono (cd _) ?_
    rintro e w5 ⟨rfl, rfl⟩
    clear cd
    go_wp2_with fail
    go_ret
    exact ⟨rfl, hB.out⟩
  | 8, _ =>
    have hn : (t + 15) % 15 = 8 := hn
    have htx : TextS 4623139235229744497 = ⟨#[49, 50, 51, 53, 37]⟩ := by decide +kernel
    have hwq : Wf 4623139235229744497 := by decide
    have cx := fun (W : World) (hW : Below w.heap.size w W) => text_any 4623139235229744497 hwq (hT.below hW)
    simp only [htx] at cx
    clear htx hwq hN hT
    have hm1 : ∀ W, (binOp .mul 23 (.float .f64 4623139235229744497) (.float .f64 4636737291354636288)).run Tryd.prog W = .ok (.float .f64 4653144203864309760) W := fun W => run_float_arith W .mul 23 .f64 _ _ _ (by decide +kernel)
    have hcc : ∀ W, (convert 23 3 (.float .f64 4653144203864309760)).run Tryd.prog W = .ok (.int .i64 1234) W := fun W => run_convert_float_int W 23 3 .f64 .i64 _ _ (by rw [Tryd.underlying23]; rfl) Tryd.underlying3 (by decide +kernel)
    have hfi : floatOfInt .f64 1234 = 4653142004841054208 := by decide +kernel
    have hsb : ∀ W, (binOp .sub 23 (.float .f64 4653144203864309760) (.float .f64 4653142004841054208)).run Tryd.prog W = .ok (.float .f64 4602678819172646912) W := fun W => run_float_arith W .sub 23 .f64 _ _ _ (by decide +kernel)
    have hoz : FloatKind.f64.format.order 4602678819172646912 4602678819172646912 = some .eq := by decide +kernel
    have cd := dig1235
    have hap : (([49, 50, 51, 53, 37] : List UInt8) == ((⟨#[49, 50, 51, 53]⟩ : ByteArray) ++ ⟨#[37]⟩).toList) = true := by decide +kernel
    go_enter Tryd.func8, Tryd.ntmps8
    go_wp2_with (first | (go_at_call 26; (with_reducible refine Calls.mono (cz _) ?_); rintro e w2 ⟨rfl, rfl⟩))
    generalize hwq : (World.alloc (World.alloc w _) _).drew = wq
    have hb0 : Below w.heap.size w wq := by rw [← hwq]; exact (below_alloc (below_alloc (Below.refl _ w) _) _).drew
    clear hwq
    replace hb0 := Lib.hid hb0
    with_reducible refine Calls.mono (ct _ hb0.out) ?_
    rintro e w3 ⟨rfl, hb⟩
    have hB := Lib.hid (hb0.out.trans (hb.mono hb0.out.size))
    clear ct hb hb0
    go_wp2_with fail
    with_reducible refine Calls.mono (cx _ hB.out) ?_
    rintro e w4 ⟨rfl, hb⟩
    replace hB := Lib.hid (hB.out.trans (hb.mono hB.out.size))
    clear cx hb
    go_wp2_with fail
    with_reducible refine Calls.mono (cd _) ?_
    rintro e w5 ⟨rfl, rfl⟩
    clear cd
    go_wp2_with fail
    go_ret
    exact ⟨rfl, hB.out⟩
  | 9, _ =>
    have hn : (t + 15) % 15 = 9 := hn
    have htx : TextS 9218868437227405312 = ⟨#[43, 73, 110, 102]⟩ := by decide +kernel
    have hwq : Wf 9218868437227405312 := by decide
    have cx := fun (W : World) (hW : Below w.heap.size w W) => text_any 9218868437227405312 hwq (hT.below hW)
    simp only [htx] at cx
    clear htx hwq hN hT
    go_enter Tryd.func8, Tryd.ntmps8
    go_wp2_with (first | (go_at_call 26; (with_reducible refine Calls.mono (cz _) ?_); rintro e w2 ⟨rfl, rfl⟩))
    generalize hwq : (World.alloc (World.alloc w _) _).drew = wq
    have hb0 : Below w.heap.size w wq := by rw [← hwq]; exact (below_alloc (below_alloc (Below.refl _ w) _) _).drew
    have hc0 : wq.cell? ⟨w.heap.size + 1, 9, none⟩ = some (.string ⟨#[43, 73, 110, 102]⟩) := by rw [← hwq]; exact cell_of (heap_new1 (size_new w _)) rfl
    clear hwq
    have hP1 : Hid (∀ V, Below wq.heap.size wq V → Calls Tryd.prog 11 #[] V fun e V2 => e = .returned (.bool true) ∧ V2.cell? ⟨w.heap.size + 1, 9, none⟩ = some (.string ⟨#[43, 73, 110, 102]⟩) ∧ Hid (∀ V3, Below V2.heap.size V2 V3 → Calls Tryd.prog 19 #[.float .f64 9218868437227405312] V3 fun e V4 => e = .returned (.string ⟨#[43, 73, 110, 102]⟩) ∧ V4.cell? ⟨w.heap.size + 1, 9, none⟩ = some (.string ⟨#[43, 73, 110, 102]⟩) ∧ Hid (Below w.heap.size w V4))) := Lib.hid fun V hV => by
      have b1 := hb0.trans (hV.mono hb0.size)
      refine (ct V b1).mono fun e V2 ⟨e1, k1⟩ => ⟨e1, cell_then k1 (cell_then hV hc0), Lib.hid fun V3 k2 => ?_⟩
      have b2 := b1.trans (k1.mono b1.size)
      have b3 := b2.trans (k2.mono b2.size)
      exact (cx V3 b3).mono fun e V4 ⟨e2, k3⟩ => ⟨e2, cell_then k3 (cell_then k2 (cell_then k1 (cell_then hV hc0))), Lib.hid (b3.trans (k3.mono b3.size))⟩
    have hbd : Below wq.heap.size wq wq.drew := (Below.refl _ _).drew
    clear ct cx hb0
    go_wp2_with fail
    go_region_held3 (fun W' => W'.cell? ⟨w.heap.size + 1, 9, none⟩ = some (.string ⟨#[43, 73, 110, 102]⟩)) (first | exact hc0 | go_keep | assumption | exact cell_then (by assumption) (by assumption)) (first | (go_at_call 11; ((with_reducible refine (hP1.out _ (by repeat (first | assumption | exact Below.refl _ _ | refine below_drewN ?_ _ | refine below_alloc ?_ _ | refine below_then ?_ (by assumption)))).mono ?_); rintro e wy ⟨rfl, hky, hP2⟩)) | (go_at_call 19; ((with_reducible refine (hP2.out _ (by repeat (first | assumption | exact Below.refl _ _ | refine below_drewN ?_ _ | refine below_alloc ?_ _ | refine below_then ?_ (by assumption)))).mono ?_); rintro e wz ⟨rfl, hkz, hEnd⟩)))
    all_goals
      go_wp2_with fail
      go_ret
      exact ⟨rfl, hEnd.out⟩
  | 10, _ =>
    have hn : (t + 15) % 15 = 10 := hn
    have htx : TextS 18442240474082181120 = ⟨#[45, 73, 110, 102]⟩ := by decide +kernel
    have hwq : Wf 18442240474082181120 := by decide
    have cx := fun (W : World) (hW : Below w.heap.size w W) => text_any 18442240474082181120 hwq (hT.below hW)
    simp only [htx] at cx
    clear htx hwq hN hT
    go_enter Tryd.func8, Tryd.ntmps8
    go_wp2_with (first | (go_at_call 26; (with_reducible refine Calls.mono (cz _) ?_); rintro e w2 ⟨rfl, rfl⟩))
    generalize hwq : (World.alloc (World.alloc w _) _).drew = wq
    have hb0 : Below w.heap.size w wq := by rw [← hwq]; exact (below_alloc (below_alloc (Below.refl _ w) _) _).drew
    have hc0 : wq.cell? ⟨w.heap.size + 1, 10, none⟩ = some (.string ⟨#[45, 73, 110, 102]⟩) := by rw [← hwq]; exact cell_of (heap_new1 (size_new w _)) rfl
    clear hwq
    have hP1 : Hid (∀ V, Below wq.heap.size wq V → Calls Tryd.prog 11 #[] V fun e V2 => e = .returned (.bool true) ∧ V2.cell? ⟨w.heap.size + 1, 10, none⟩ = some (.string ⟨#[45, 73, 110, 102]⟩) ∧ Hid (∀ V3, Below V2.heap.size V2 V3 → Calls Tryd.prog 19 #[.float .f64 18442240474082181120] V3 fun e V4 => e = .returned (.string ⟨#[45, 73, 110, 102]⟩) ∧ V4.cell? ⟨w.heap.size + 1, 10, none⟩ = some (.string ⟨#[45, 73, 110, 102]⟩) ∧ Hid (Below w.heap.size w V4))) := Lib.hid fun V hV => by
      have b1 := hb0.trans (hV.mono hb0.size)
      refine (ct V b1).mono fun e V2 ⟨e1, k1⟩ => ⟨e1, cell_then k1 (cell_then hV hc0), Lib.hid fun V3 k2 => ?_⟩
      have b2 := b1.trans (k1.mono b1.size)
      have b3 := b2.trans (k2.mono b2.size)
      exact (cx V3 b3).mono fun e V4 ⟨e2, k3⟩ => ⟨e2, cell_then k3 (cell_then k2 (cell_then k1 (cell_then hV hc0))), Lib.hid (b3.trans (k3.mono b3.size))⟩
    have hbd : Below wq.heap.size wq wq.drew := (Below.refl _ _).drew
    clear ct cx hb0
    go_wp2_with fail
    go_region_held3 (fun W' => W'.cell? ⟨w.heap.size + 1, 10, none⟩ = some (.string ⟨#[45, 73, 110, 102]⟩)) (first | exact hc0 | go_keep | assumption | exact cell_then (by assumption) (by assumption)) (first | (go_at_call 11; ((with_reducible refine (hP1.out _ (by repeat (first | assumption | exact Below.refl _ _ | refine below_drewN ?_ _ | refine below_alloc ?_ _ | refine below_then ?_ (by assumption)))).mono ?_); rintro e wy ⟨rfl, hky, hP2⟩)) | (go_at_call 19; ((with_reducible refine (hP2.out _ (by repeat (first | assumption | exact Below.refl _ _ | refine below_drewN ?_ _ | refine below_alloc ?_ _ | refine below_then ?_ (by assumption)))).mono ?_); rintro e wz ⟨rfl, hkz, hEnd⟩)))
    all_goals
      go_wp2_with fail
      go_ret
      exact ⟨rfl, hEnd.out⟩
  | 11, _ =>
    have hn : (t + 15) % 15 = 11 := hn
    have htx : TextS q = ⟨#[78, 97, 78]⟩ := by unfold TextS; rw [if_pos hN.2]
    have hwq : Wf q := hN.1
    have cx := fun (W : World) (hW : Below w.heap.size w W) => text_any q hwq (hT.below hW)
    simp only [htx] at cx
    clear htx hwq hN hT
    go_enter Tryd.func8, Tryd.ntmps8
    go_wp2_with (first | (go_at_call 26; (with_reducible refine Calls.mono (cz _) ?_); rintro e w2 ⟨rfl, rfl⟩))
    generalize hwq : (World.alloc (World.alloc w _) _).drew = wq
    have hb0 : Below w.heap.size w wq := by rw [← hwq]; exact (below_alloc (below_alloc (Below.refl _ w) _) _).drew
    have hc0 : wq.cell? ⟨w.heap.size + 1, 11, none⟩ = some (.string ⟨#[78, 97, 78]⟩) := by rw [← hwq]; exact cell_of (heap_new1 (size_new w _)) rfl
    clear hwq
    have hP1 : Hid (∀ V, Below wq.heap.size wq V → Calls Tryd.prog 11 #[] V fun e V2 => e = .returned (.bool true) ∧ V2.cell? ⟨w.heap.size + 1, 11, none⟩ = some (.string ⟨#[78, 97, 78]⟩) ∧ Hid (∀ V3, Below V2.heap.size V2 V3 → Calls Tryd.prog 19 #[.float .f64 q] V3 fun e V4 => e = .returned (.string ⟨#[78, 97, 78]⟩) ∧ V4.cell? ⟨w.heap.size + 1, 11, none⟩ = some (.string ⟨#[78, 97, 78]⟩) ∧ Hid (Below w.heap.size w V4))) := Lib.hid fun V hV => by
      have b1 := hb0.trans (hV.mono hb0.size)
      refine (ct V b1).mono fun e V2 ⟨e1, k1⟩ => ⟨e1, cell_then k1 (cell_then hV hc0), Lib.hid fun V3 k2 => ?_⟩
      have b2 := b1.trans (k1.mono b1.size)
      have b3 := b2.trans (k2.mono b2.size)
      exact (cx V3 b3).mono fun e V4 ⟨e2, k3⟩ => ⟨e2, cell_then k3 (cell_then k2 (cell_then k1 (cell_then hV hc0))), Lib.hid (b3.trans (k3.mono b3.size))⟩
    have hbd : Below wq.heap.size wq wq.drew := (Below.refl _ _).drew
    clear ct cx hb0
    go_wp2_with fail
    go_region_held3 (fun W' => W'.cell? ⟨w.heap.size + 1, 11, none⟩ = some (.string ⟨#[78, 97, 78]⟩)) (first | exact hc0 | go_keep | assumption | exact cell_then (by assumption) (by assumption)) (first | (go_at_call 11; ((with_reducible refine (hP1.out _ (by repeat (first | assumption | exact Below.refl _ _ | refine below_drewN ?_ _ | refine below_alloc ?_ _ | refine below_then ?_ (by assumption)))).mono ?_); rintro e wy ⟨rfl, hky, hP2⟩)) | (go_at_call 19; ((with_reducible refine (hP2.out _ (by repeat (first | assumption | exact Below.refl _ _ | refine below_drewN ?_ _ | refine below_alloc ?_ _ | refine below_then ?_ (by assumption)))).mono ?_); rintro e wz ⟨rfl, hkz, hEnd⟩)))
    all_goals
      go_wp2_with fail
      go_ret
      exact ⟨rfl, hEnd.out⟩
  | 12, _ =>
    have hn : (t + 15) % 15 = 12 := hn
    have htx : TextS 9094988921128908188 = ⟨#[43, 66, 105, 103]⟩ := by decide +kernel
    have hwq : Wf 9094988921128908188 := by decide
    have cx := fun (W : World) (hW : Below w.heap.size w W) => text_any 9094988921128908188 hwq (hT.below hW)
    simp only [htx] at cx
    clear htx hwq hN hT
    go_enter Tryd.func8, Tryd.ntmps8
    go_wp2_with (first | (go_at_call 26; (with_reducible refine Calls.mono (cz _) ?_); rintro e w2 ⟨rfl, rfl⟩))
    generalize hwq : (World.alloc (World.alloc w _) _).drew = wq
    have hb0 : Below w.heap.size w wq := by rw [← hwq]; exact (below_alloc (below_alloc (Below.refl _ w) _) _).drew
    have hc0 : wq.cell? ⟨w.heap.size + 1, 12, none⟩ = some (.string ⟨#[43, 66, 105, 103]⟩) := by rw [← hwq]; exact cell_of (heap_new1 (size_new w _)) rfl
    clear hwq
    have hP1 : Hid (∀ V, Below wq.heap.size wq V → Calls Tryd.prog 11 #[] V fun e V2 => e = .returned (.bool true) ∧ V2.cell? ⟨w.heap.size + 1, 12, none⟩ = some (.string ⟨#[43, 66, 105, 103]⟩) ∧ Hid (∀ V3, Below V2.heap.size V2 V3 → Calls Tryd.prog 19 #[.float .f64 9094988921128908188] V3 fun e V4 => e = .returned (.string ⟨#[43, 66, 105, 103]⟩) ∧ V4.cell? ⟨w.heap.size + 1, 12, none⟩ = some (.string ⟨#[43, 66, 105, 103]⟩) ∧ Hid (Below w.heap.size w V4))) := Lib.hid fun V hV => by
      have b1 := hb0.trans (hV.mono hb0.size)
      refine (ct V b1).mono fun e V2 ⟨e1, k1⟩ => ⟨e1, cell_then k1 (cell_then hV hc0), Lib.hid fun V3 k2 => ?_⟩
      have b2 := b1.trans (k1.mono b1.size)
      have b3 := b2.trans (k2.mono b2.size)
      exact (cx V3 b3).mono fun e V4 ⟨e2, k3⟩ => ⟨e2, cell_then k3 (cell_then k2 (cell_then k1 (cell_then hV hc0))), Lib.hid (b3.trans (k3.mono b3.size))⟩
    have hbd : Below wq.heap.size wq wq.drew := (Below.refl _ _).drew
    clear ct cx hb0
    go_wp2_with fail
    go_region_held3 (fun W' => W'.cell? ⟨w.heap.size + 1, 12, none⟩ = some (.string ⟨#[43, 66, 105, 103]⟩)) (first | exact hc0 | go_keep | assumption | exact cell_then (by assumption) (by assumption)) (first | (go_at_call 11; ((with_reducible refine (hP1.out _ (by repeat (first | assumption | exact Below.refl _ _ | refine below_drewN ?_ _ | refine below_alloc ?_ _ | refine below_then ?_ (by assumption)))).mono ?_); rintro e wy ⟨rfl, hky, hP2⟩)) | (go_at_call 19; ((with_reducible refine (hP2.out _ (by repeat (first | assumption | exact Below.refl _ _ | refine below_drewN ?_ _ | refine below_alloc ?_ _ | refine below_then ?_ (by assumption)))).mono ?_); rintro e wz ⟨rfl, hkz, hEnd⟩)))
    all_goals
      go_wp2_with fail
      go_ret
      exact ⟨rfl, hEnd.out⟩
  | 13, _ =>
    have hn : (t + 15) % 15 = 13 := hn
    have htx : TextS 18318360957983683996 = ⟨#[45, 66, 105, 103]⟩ := by decide +kernel
    have hwq : Wf 18318360957983683996 := by decide
    have cx := fun (W : World) (hW : Below w.heap.size w W) => text_any 18318360957983683996 hwq (hT.below hW)
    simp only [htx] at cx
    clear htx hwq hN hT
    go_enter Tryd.func8, Tryd.ntmps8
    go_wp2_with (first | (go_at_call 26; (with_reducible refine Calls.mono (cz _) ?_); rintro e w2 ⟨rfl, rfl⟩))
    generalize hwq : (World.alloc (World.alloc w _) _).drew = wq
    have hb0 : Below w.heap.size w wq := by rw [← hwq]; exact (below_alloc (below_alloc (Below.refl _ w) _) _).drew
    have hc0 : wq.cell? ⟨w.heap.size + 1, 13, none⟩ = some (.string ⟨#[45, 66, 105, 103]⟩) := by rw [← hwq]; exact cell_of (heap_new1 (size_new w _)) rfl
    clear hwq
    have hP1 : Hid (∀ V, Below wq.heap.size wq V → Calls Tryd.prog 11 #[] V fun e V2 => e = .returned (.bool true) ∧ V2.cell? ⟨w.heap.size + 1, 13, none⟩ = some (.string ⟨#[45, 66, 105, 103]⟩) ∧ Hid (∀ V3, Below V2.heap.size V2 V3 → Calls Tryd.prog 19 #[.float .f64 18318360957983683996] V3 fun e V4 => e = .returned (.string ⟨#[45, 66, 105, 103]⟩) ∧ V4.cell? ⟨w.heap.size + 1, 13, none⟩ = some (.string ⟨#[45, 66, 105, 103]⟩) ∧ Hid (Below w.heap.size w V4))) := Lib.hid fun V hV => by
      have b1 := hb0.trans (hV.mono hb0.size)
      refine (ct V b1).mono fun e V2 ⟨e1, k1⟩ => ⟨e1, cell_then k1 (cell_then hV hc0), Lib.hid fun V3 k2 => ?_⟩
      have b2 := b1.trans (k1.mono b1.size)
      have b3 := b2.trans (k2.mono b2.size)
      exact (cx V3 b3).mono fun e V4 ⟨e2, k3⟩ => ⟨e2, cell_then k3 (cell_then k2 (cell_then k1 (cell_then hV hc0))), Lib.hid (b3.trans (k3.mono b3.size))⟩
    have hbd : Below wq.heap.size wq wq.drew := (Below.refl _ _).drew
    clear ct cx hb0
    go_wp2_with fail
    go_region_held3 (fun W' => W'.cell? ⟨w.heap.size + 1, 13, none⟩ = some (.string ⟨#[45, 66, 105, 103]⟩)) (first | exact hc0 | go_keep | assumption | exact cell_then (by assumption) (by assumption)) (first | (go_at_call 11; ((with_reducible refine (hP1.out _ (by repeat (first | assumption | exact Below.refl _ _ | refine below_drewN ?_ _ | refine below_alloc ?_ _ | refine below_then ?_ (by assumption)))).mono ?_); rintro e wy ⟨rfl, hky, hP2⟩)) | (go_at_call 19; ((with_reducible refine (hP2.out _ (by repeat (first | assumption | exact Below.refl _ _ | refine below_drewN ?_ _ | refine below_alloc ?_ _ | refine below_then ?_ (by assumption)))).mono ?_); rintro e wz ⟨rfl, hkz, hEnd⟩)))
    all_goals
      go_wp2_with fail
      go_ret
      exact ⟨rfl, hEnd.out⟩
  | 14, _ =>
    have hn : (t + 15) % 15 = 14 := hn
    have htx : TextS 4801453603149578240 = ⟨#[49, 48, 48, 48, 48, 48, 48, 48, 48, 48, 48, 48, 48, 48, 48, 48, 37]⟩ := by decide +kernel
    have hwq : Wf 4801453603149578240 := by decide
    have cx := fun (W : World) (hW : Below w.heap.size w W) => text_any 4801453603149578240 hwq (hT.below hW)
    simp only [htx] at cx
    clear htx hwq hN hT
    go_enter Tryd.func8, Tryd.ntmps8
    go_wp2_with (first | (go_at_call 26; (with_reducible refine Calls.mono (cz _) ?_); rintro e w2 ⟨rfl, rfl⟩))
    generalize hwq : (World.alloc (World.alloc w _) _).drew = wq
    have hb0 : Below w.heap.size w wq := by rw [← hwq]; exact (below_alloc (below_alloc (Below.refl _ w) _) _).drew
    have hc0 : wq.cell? ⟨w.heap.size + 1, 14, none⟩ = some (.string ⟨#[49, 48, 48, 48, 48, 48, 48, 48, 48, 48, 48, 48, 48, 48, 48, 48, 37]⟩) := by rw [← hwq]; exact cell_of (heap_new1 (size_new w _)) rfl
    clear hwq
    have hP1 : Hid (∀ V, Below wq.heap.size wq V → Calls Tryd.prog 11 #[] V fun e V2 => e = .returned (.bool true) ∧ V2.cell? ⟨w.heap.size + 1, 14, none⟩ = some (.string ⟨#[49, 48, 48, 48, 48, 48, 48, 48, 48, 48, 48, 48, 48, 48, 48, 48, 37]⟩) ∧ Hid (∀ V3, Below V2.heap.size V2 V3 → Calls Tryd.prog 19 #[.float .f64 4801453603149578240] V3 fun e V4 => e = .returned (.string ⟨#[49, 48, 48, 48, 48, 48, 48, 48, 48, 48, 48, 48, 48, 48, 48, 48, 37]⟩) ∧ V4.cell? ⟨w.heap.size + 1, 14, none⟩ = some (.string ⟨#[49, 48, 48, 48, 48, 48, 48, 48, 48, 48, 48, 48, 48, 48, 48, 48, 37]⟩) ∧ Hid (Below w.heap.size w V4))) := Lib.hid fun V hV => by
      have b1 := hb0.trans (hV.mono hb0.size)
      refine (ct V b1).mono fun e V2 ⟨e1, k1⟩ => ⟨e1, cell_then k1 (cell_then hV hc0), Lib.hid fun V3 k2 => ?_⟩
      have b2 := b1.trans (k1.mono b1.size)
      have b3 := b2.trans (k2.mono b2.size)
      exact (cx V3 b3).mono fun e V4 ⟨e2, k3⟩ => ⟨e2, cell_then k3 (cell_then k2 (cell_then k1 (cell_then hV hc0))), Lib.hid (b3.trans (k3.mono b3.size))⟩
    have hbd : Below wq.heap.size wq wq.drew := (Below.refl _ _).drew
    clear ct cx hb0
    go_wp2_with fail
    go_region_held3 (fun W' => W'.cell? ⟨w.heap.size + 1, 14, none⟩ = some (.string ⟨#[49, 48, 48, 48, 48, 48, 48, 48, 48, 48, 48, 48, 48, 48, 48, 48, 37]⟩)) (first | exact hc0 | go_keep | assumption | exact cell_then (by assumption) (by assumption)) (first | (go_at_call 11; ((with_reducible refine (hP1.out _ (by repeat (first | assumption | exact Below.refl _ _ | refine below_drewN ?_ _ | refine below_alloc ?_ _ | refine below_then ?_ (by assumption)))).mono ?_); rintro e wy ⟨rfl, hky, hP2⟩)) | (go_at_call 19; ((with_reducible refine (hP2.out _ (by repeat (first | assumption | exact Below.refl _ _ | refine below_drewN ?_ _ | refine below_alloc ?_ _ | refine below_then ?_ (by assumption)))).mono ?_); rintro e wz ⟨rfl, hkz, hEnd⟩)))
    all_goals
      go_wp2_with fail
      go_ret
      exact ⟨rfl, hEnd.out⟩

set_option maxRecDepth 100000 in
theorem lifted (os : Os) (started : os.Started) (H : Type) (enc : TypeId × Value → H) :
    ReturnsInHanded {} Tryd.checked os 8 .any (fun w args => (Rows.rateKnownSpec.pre enc Tryd.prog Tryd.f8 [] false w args ∧ laidMetH Tryd.prog [("math/bits.deBruijn32tab", Rows.laid_math_bits_deBruijn32tab), ("math/bits.deBruijn64tab", Rows.laid_math_bits_deBruijn64tab), ("internal/strconv.uint64pow10", Rows.laid_internal_strconv_uint64pow10)] w) ∧ sizedMet enc Tryd.prog Tryd.f8 (OpenSpec.ofChange Rows.rateKnownSpec) false w args) (Rows.rateKnownSpec.post enc Tryd.prog Tryd.f8 false true false false) := by
  refine returnsInHanded_of_change_and (C := Tryd.checked) (X := fun w _ => laidMetH Tryd.prog [("math/bits.deBruijn32tab", Rows.laid_math_bits_deBruijn32tab), ("math/bits.deBruijn64tab", Rows.laid_math_bits_deBruijn64tab), ("internal/strconv.uint64pow10", Rows.laid_internal_strconv_uint64pow10)] w) (fun _ _ _ hh h => h.of_heap hh) own started (by kernel_rfl) Tryd.func8
    (ChangeSpec.witness_shaped (enc := enc) (C := Tryd.checked) (os := os) (X := fun w _ => laidMetH Tryd.prog [("math/bits.deBruijn32tab", Rows.laid_math_bits_deBruijn32tab), ("math/bits.deBruijn64tab", Rows.laid_math_bits_deBruijn64tab), ("internal/strconv.uint64pow10", Rows.laid_internal_strconv_uint64pow10)] w) false (World.doorLaid Tryd.prog 400 os) #[.int .i64 0] 8 rfl (World.shaped_of_RefB (by kernel_rfl) (by kernel_rfl)) (by kernel_rfl) (by kernel_rfl) (by kernel_rfl) (door_met os _)) ?_
  intro W base args ds gs before hval0 hW _ _ hL _
  have hval : ∀ (j : Nat) t v, Tryd.f8.params[j]? = some t → args[j]? = some v → Value.okWide Tryd.prog W .any base t v := hval0
  have hW' := hW
  obtain ⟨p, q, hA0, hV, rfl, hfz, hnd⟩ := hW
  have hA : DataW.TrodAll enc Tryd.prog W 0 (fun _ => true) true Tryd.f8.params.toList args.toList ds p := hA0
  rw [Tryd.params8] at hA hval
  obtain ⟨v0, vs0, d0, ds0, p0, q0, hargs, rfl, rfl, h0, r0⟩ := trodAll_cons hA
  obtain ⟨rfl, rfl, rfl⟩ := trodAll_nil r0
  obtain rfl : args = #[v0] := by cases args; simp_all
  obtain ⟨rfl, rfl⟩ := trodVars_none hV
  obtain ⟨a0, rfl, rfl, rfl, w0⟩ := open_int Tryd.underlying3 (hval 0 3 v0 rfl rfl) h0
  clear hA0 hval0
  simp only [List.append_nil] at hW'
  refine (walk a0 W (tab_of_laid hL) w0).mono fun e W' ⟨he, hg⟩ => ?_
  subst he
  exact ⟨_, rfl, post_of_kept (pa := _) (pv := []) hW' (fun _ _ _ => (trodAll_cons_mk (shut_bool Tryd.underlying4 _) trodAll_mk0)) (trodAll_cons_mk (shut_int Tryd.underlying3 w0) trodAll_mk0) (fun _ _ => rfl) (by simp) hg⟩

theorem over : Rows.rateKnownRow.holds Tryd.pinned (OpenSpec.ofChange Rows.rateKnownSpec) :=
  OpenClaim.holds_of_wide 8 Tryd.f8 rfl rfl rfl rfl rfl rfl rfl ⟨rfl, rfl, rfl, rfl, rfl⟩ rfl rfl rfl rfl rfl (by kernel_rfl) Tryd.func8 (by kernel_rfl)
    (of_decide_eq_true (by kernel_rfl)) (by unfold Func.isWrapper; first | (rw [if_pos (by decide +kernel)]; kernel_rfl) | (rw [if_neg (by decide +kernel)]; exact ⟨rfl, rfl⟩))
    (fun os started H enc _ => lifted os started H enc)

theorem proved : Rows.RateKnownCardSaid :=
  Claim7.holds_tied_plain_at .later [] [.data, .data, .data] true Rows.rateKnownCard.stood.harness true
    over (fun _ h => by cases h) (by kernel_rfl) (fun _ h => by cases h) rateKnown_row_tie rfl ⟨rfl, rfl⟩ (by kernel_rfl) rfl
    (fun f fn hf hfn => by
      obtain rfl : f = 8 := Option.some.inj ((show Tryd.prog.funcNamed "treadmill/treadmilllaw31.RateKnown" = some 8 by kernel_rfl).symm.trans hf) |>.symm
      obtain rfl : fn = Tryd.f8 := (Option.some.inj (Tryd.func8.symm.trans hfn)).symm
      exact ⟨by kernel_rfl, fun j t ht => by
        rw [Tryd.params8] at ht
        have hm : t ∈ [3] := by simpa using Array.mem_of_getElem? ht
        have hall : ([3].all fun u => !Tryd.prog.wantsStandIn u) = true := by kernel_rfl
        exact (show Tryd.prog.wantsStandIn t = false by simpa using List.all_eq_true.1 hall t hm)⟩)
    (by kernel_rfl)
#print axioms proved
end Go.Proofs.YtinlbenifmcgaaaDoor.rateKnown
