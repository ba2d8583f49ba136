/- For any list of operations the statement WaitPlays answers true and leaves it as it was: who waits goes as the document says, call by call. No condition. -/
import Derived.Test.YtmngaedcckjfoabHome
import Derived.Test.YtmngaedcckjfoabWaitTold
import Derived.Test.YtmngaedcckjfoabWaitRef
import Derived.Test.YtmngaedcckjfoabWaitBoth
import Derived.Test.YtmngaedcckjfoabOp14
import Derived.WalkKit
import Derived.ProofKit
import Derived.OpenShut
import Derived.Deep.RegionHeld3
import Derived.Deep.RegionWith
import Derived.Deep.Cut
import Derived.Deep.CutBlock
import Derived.Deep.CutRange
import Derived.Deep.LoopGhost
import Derived.Deep.DeepCutAuto
import Derived.RegionTactic
import Derived.StillTailTactics
namespace Go.Proofs.Ytmngaedcckjfoab.waitPlays
open Go.ChangeShapes Go.WideShapes Go.ChangeAt Go.WideElems Go.RowKit Go.Lib Fx Ho Wt Rw Qu Wx
set_option linter.unusedVariables false

theorem own : ownKnob Try.prog.godebug = none := by kernel_rfl

theorem trem (x : Int) : -6 < x.tmod 6 ∧ x.tmod 6 < 6 := by
  rw [Int.tmod_eq_emod]; split <;> omega
set_option maxRecDepth 100000 in
set_option maxHeartbeats 4000000 in
theorem walk (v0 : Value) (zb0 : List _) (w : World) (h0 : Op14 w v0 zb0) :
    Calls Try.prog 6 #[v0] w fun e w' => e = .returned (.bool true) ∧ Below w.heap.size w w' := by
  obtain ⟨sp, cap, rfl, hm, hc⟩ := h0
  obtain ⟨l, hl⟩ : ∃ l, zb0.length = l := ⟨_, rfl⟩
  rw [hl] at hm hc ⊢
  have hcells : Hid (∀ wr, Below w.heap.size w wr → ∀ i, i < l → ∃ b off x0 x1 x2, sp = some ⟨b, off, none⟩ ∧ wr.cell? ⟨b, off + i * 3, none⟩ = some (.int .i64 x0) ∧ wr.cell? ⟨b, off + i * 3 + 1, none⟩ = some (.int .i64 x1) ∧ wr.cell? ⟨b, off + i * 3 + 2, none⟩ = some (.int .i64 x2)) := Lib.hid fun wr hb i hi => by
    obtain ⟨b, off, e, _, d0, d1, d2⟩ := hc i hi
    have t : ∀ {j : Nat} {v : Value}, w.cell? ⟨b, off + (i * 3 + j), none⟩ = some v → wr.cell? ⟨b, off + i * 3 + j, none⟩ = some v := fun {j v} h => by have := cell_then hb h; rwa [← Nat.add_assoc] at this
    exact ⟨b, off, _, _, _, e, cell_then hb d0, t d1, t d2⟩
  clear hc hl
  have cn := new_any w
  obtain ⟨R0, hR0⟩ : ∃ R0 : Array Value, Wt.waits0 = R0 := ⟨_, rfl⟩
  have h0 : Try.prog.built 65 [] = some R0 := by rw [← hR0]; kernel_rfl
  go_enter Try.func6, Try.ntmps6
  go_wp2_with fail
  with_reducible refine Calls.mono (cn) ?_
  rintro e w1 ⟨rfl, hs⟩
  clear cn
  have hW := Lib.hid (new_both w w1 hs)
  rw [hR0] at hW
  obtain ⟨p, hp⟩ : ∃ p, w.heap.size = p := ⟨_, rfl⟩
  replace hp := Lib.hid hp
  rw [hp.out] at hW
  clear hs hR0
  go_wp2_with (refine wpList_built rfl 65 #[] rfl R0 (by simpa using h0) ?_)
  rw [hp.out]
  generalize w1.alloc (.cells R0 65) = w2 at *
  generalize w1.heap.size = q at *
  clear h0
  go_loopw [5] (fun x wr => ∃ (k : Nat) (Z : Nat → List Int), x = .int .i64 k ∧ k ≤ l ∧ k ≤ 60 ∧ Hid (∀ j, j < 32 → (Z j).length ≤ k) ∧ Hid (Wr w wr p q Z)) (fun x _ => (60 - (RowKit.intOf x).toNat))
  case atStart => exact ⟨0, fun _ => [], rfl, by omega, by omega, Lib.hid (fun j hj => by simp), hW⟩
  case round =>
    clear hW
    obtain ⟨k, Z, rfl, kl, k60, hZ, hR⟩ := hrel
    by_cases hk : k < l ∧ k < 60
    · obtain ⟨hk1, hk2⟩ := hk
      have i2 : (k : Int) < (l : Int) := by omega
      have i3 : (k : Int) < 60 := by omega
      have i0 : (0 : Int) ≤ (k : Int) := by omega
      obtain ⟨b, off, K, A, G, rfl, d0, d1, d2⟩ := hcells.out wr hR.out.out k hk1
      obtain ⟨z, hz⟩ : ∃ z, wr.heap.size = z := ⟨_, rfl⟩
      have hbx := below_alloc (Below.refl _ wr) (.cells #[.int .i64 K, .int .i64 A, .int .i64 G] 67)
      have hx : Hid ((wr.alloc (.cells #[.int .i64 K, .int .i64 A, .int .i64 G] 67)).heap[z]? = some (.cells #[.int .i64 K, .int .i64 A, .int .i64 G] 67 (0, 0))) := Lib.hid (by rw [← hz]; exact heap_alloc_new _ _)
      have hn : Hid (Off (fun k => k = z) (fun k => k < wr.heap.size)) := Lib.hid (fun k h1 h2 => by omega)
      have hR2 : Hid (∃ H Hx, Wq w (wr.alloc (.cells #[.int .i64 K, .int .i64 A, .int .i64 G] 67)) p q H Hx Z Z ∧ ¬ H z ∧ ¬ Hx z) := Lib.hid (by
        obtain ⟨H, Hx, h⟩ := hR.out
        exact ⟨H, Hx, h.below hbx, fun h2 => by have := h.s.lt h2; omega, fun h2 => by have := h.x.lt h2; omega⟩)
      clear hn hR hbx
      obtain ⟨y, hy⟩ : ∃ y, K.tmod 6 = y := ⟨_, rfl⟩
      have hy2 := trem K
      have y1 : -6 < y := by omega
      have y2 : y < 6 := by omega
      clear hy2
      obtain ⟨t, ht⟩ : ∃ t, (y + 6) % 6 = t := ⟨_, rfl⟩
      have d9 := cell_of hx.out (j := 0) rfl
      have hZk : Hid (∀ j, j < 32 → (Z j).length ≤ k) := hZ
      go_upto_block 2 with fail
      generalize wr.alloc (.cells #[.int .i64 K, .int .i64 A, .int .i64 G] 67) = w3 at *
      go_cut [7, 8, 9, 10] from 17 to 129 (fun s7 s8 s9 s10 wx => ∃ Z2, Hid (∀ j, j < 32 → (Z2 j).length ≤ k + 1) ∧ Hid (Wr w wx p q Z2) ∧ Hid (wx.heap[z]? = some (.cells #[.int .i64 K, .int .i64 A, .int .i64 G] 67 (0, 0))))
      case first =>
        rcases (show t = 0 ∨ t = 1 ∨ t = 2 ∨ t = 3 ∨ t = 4 ∨ t = 5 by omega) with rfl | rfl | rfl | rfl | rfl | rfl
        · skip
          obtain ⟨r, Z2, hZ2, k1, k2⟩ := wait_both Z A G hZk.out (by omega)
          have h2 : Two w w3 p q z (.cells #[.int .i64 K, .int .i64 A, .int .i64 G] 67 (0, 0)) 38 39 #[.pointer (some ⟨p, 0, none⟩), .int .i64 A, .int .i64 G] #[.pointer (some ⟨q, 0, none⟩), .int .i64 A, .int .i64 G] (.int .i64 r) Z2 := by
            obtain ⟨H, Hx, h, n1, n2⟩ := hR2.out
            exact two_of h hx.out n1 n2 k1 k2
          have hFin : Hid (∀ w4 : World, w4.heap[z]? = some (.cells #[.int .i64 K, .int .i64 A, .int .i64 G] 67 (0, 0)) → Wr w w4 p q Z2 → (∃ Z2, Hid (∀ j, j < 32 → (Z2 j).length ≤ k + 1) ∧ Hid (Wr w w4 p q Z2) ∧ Hid (w4.heap[z]? = some (.cells #[.int .i64 K, .int .i64 A, .int .i64 G] 67 (0, 0))))) := Lib.hid fun w4 h1 h2 => ⟨Z2, Lib.hid (fun j hj => by have := hZ2 j hj; omega), Lib.hid h2, Lib.hid h1⟩
          have hP : Hid (∀ V, Below w3.heap.size w3 V → Calls Try.prog 38 #[.pointer (some ⟨p, 0, none⟩), .int .i64 A, .int .i64 G] V fun e wz => e = .returned (.int .i64 r) ∧ (wz.cell? ⟨z, 1, none⟩ = some (.int .i64 A) ∧ wz.cell? ⟨z, 2, none⟩ = some (.int .i64 G)) ∧ Hid (∀ V', Below wz.heap.size wz V' → Calls Try.prog 39 #[.pointer (some ⟨q, 0, none⟩), .int .i64 A, .int .i64 G] V' fun e w4 => e = .returned (.int .i64 r) ∧ (w4.cell? ⟨z, 1, none⟩ = some (.int .i64 A) ∧ w4.cell? ⟨z, 2, none⟩ = some (.int .i64 G)) ∧  Hid (w4.heap[z]? = some (.cells #[.int .i64 K, .int .i64 A, .int .i64 G] 67 (0, 0)) ∧ Wr w w4 p q Z2))) := Lib.hid fun V hb => (h2.l V hb).mono fun e wz ⟨e1, h, h3⟩ => ⟨e1, ⟨cell_of h rfl, cell_of h rfl⟩, Lib.hid fun V' hb' => (h3 V' hb').mono fun e w4 ⟨e2, h, h5⟩ => ⟨e2, ⟨cell_of h rfl, cell_of h rfl⟩, Lib.hid ⟨h, h5⟩⟩⟩
          have hD : Hid (∀ V, Below w3.heap.size w3 V → Calls Try.prog 39 #[.pointer (some ⟨q, 0, none⟩), .int .i64 A, .int .i64 G] V fun e wz => e = .returned (.int .i64 r) ∧ (wz.cell? ⟨z, 1, none⟩ = some (.int .i64 A) ∧ wz.cell? ⟨z, 2, none⟩ = some (.int .i64 G)) ∧ Hid (∀ V', Below wz.heap.size wz V' → Calls Try.prog 38 #[.pointer (some ⟨p, 0, none⟩), .int .i64 A, .int .i64 G] V' fun e w4 => e = .returned (.int .i64 r) ∧ (w4.cell? ⟨z, 1, none⟩ = some (.int .i64 A) ∧ w4.cell? ⟨z, 2, none⟩ = some (.int .i64 G)) ∧  Hid (w4.heap[z]? = some (.cells #[.int .i64 K, .int .i64 A, .int .i64 G] 67 (0, 0)) ∧ Wr w w4 p q Z2))) := Lib.hid fun V hb => (h2.r V hb).mono fun e wz ⟨e1, h, h3⟩ => ⟨e1, ⟨cell_of h rfl, cell_of h rfl⟩, Lib.hid fun V' hb' => (h3 V' hb').mono fun e w4 ⟨e2, h, h5⟩ => ⟨e2, ⟨cell_of h rfl, cell_of h rfl⟩, Lib.hid ⟨h, h5⟩⟩⟩
          have c1 := cell_of hx.out (j := 1) rfl
          have c2 := cell_of hx.out (j := 2) rfl
          clear h2 k1 k2 hR2 hZ2 hZ hZk hx hcells
          have hbd : Below w3.heap.size w3 w3.drew := (Below.refl _ _).drew
          go_wp2_with fail
          go_region_held3 (fun W' => W'.cell? ⟨z, 1, none⟩ = some (.int .i64 A) ∧ W'.cell? ⟨z, 2, none⟩ = some (.int .i64 G)) (first | exact ⟨c1, c2⟩ | go_keep | assumption | (go_split_ands; exact ⟨cell_then (by assumption) (by assumption), cell_then (by assumption) (by assumption)⟩)) (first | (go_at_call 39; ((with_reducible refine (hD2.out _ (by repeat (first | assumption | exact Below.refl _ _ | refine below_drewN ?_ _ | refine below_alloc ?_ _ | refine below_then ?_ (by assumption)))).mono ?_); rintro e w4 ⟨rfl, hk4, hEnd⟩)) | (go_at_call 38; ((with_reducible refine (hP2.out _ (by repeat (first | assumption | exact Below.refl _ _ | refine below_drewN ?_ _ | refine below_alloc ?_ _ | refine below_then ?_ (by assumption)))).mono ?_); rintro e w4 ⟨rfl, hk4, hEnd⟩)) | (go_at_call 38; ((with_reducible refine (hP.out _ (by repeat (first | assumption | exact Below.refl _ _ | refine below_drewN ?_ _ | refine below_alloc ?_ _ | refine below_then ?_ (by assumption)))).mono ?_); rintro e wz ⟨rfl, hkz, hD2⟩)) | (go_at_call 39; ((with_reducible refine (hD.out _ (by repeat (first | assumption | exact Below.refl _ _ | refine below_drewN ?_ _ | refine below_alloc ?_ _ | refine below_then ?_ (by assumption)))).mono ?_); rintro e wz ⟨rfl, hkz, hP2⟩)))
          all_goals
            have hE := hFin.out _ hEnd.out.1 hEnd.out.2
            go_wp2_with fail
            go_meet
            exact hE
        · skip
          obtain ⟨r, Z2, hZ2, k1, k2⟩ := wait_both Z A G hZk.out (by omega)
          have h2 : Two w w3 p q z (.cells #[.int .i64 K, .int .i64 A, .int .i64 G] 67 (0, 0)) 38 39 #[.pointer (some ⟨p, 0, none⟩), .int .i64 A, .int .i64 G] #[.pointer (some ⟨q, 0, none⟩), .int .i64 A, .int .i64 G] (.int .i64 r) Z2 := by
            obtain ⟨H, Hx, h, n1, n2⟩ := hR2.out
            exact two_of h hx.out n1 n2 k1 k2
          have hFin : Hid (∀ w4 : World, w4.heap[z]? = some (.cells #[.int .i64 K, .int .i64 A, .int .i64 G] 67 (0, 0)) → Wr w w4 p q Z2 → (∃ Z2, Hid (∀ j, j < 32 → (Z2 j).length ≤ k + 1) ∧ Hid (Wr w w4 p q Z2) ∧ Hid (w4.heap[z]? = some (.cells #[.int .i64 K, .int .i64 A, .int .i64 G] 67 (0, 0))))) := Lib.hid fun w4 h1 h2 => ⟨Z2, Lib.hid (fun j hj => by have := hZ2 j hj; omega), Lib.hid h2, Lib.hid h1⟩
          have hP : Hid (∀ V, Below w3.heap.size w3 V → Calls Try.prog 38 #[.pointer (some ⟨p, 0, none⟩), .int .i64 A, .int .i64 G] V fun e wz => e = .returned (.int .i64 r) ∧ (wz.cell? ⟨z, 1, none⟩ = some (.int .i64 A) ∧ wz.cell? ⟨z, 2, none⟩ = some (.int .i64 G)) ∧ Hid (∀ V', Below wz.heap.size wz V' → Calls Try.prog 39 #[.pointer (some ⟨q, 0, none⟩), .int .i64 A, .int .i64 G] V' fun e w4 => e = .returned (.int .i64 r) ∧ (w4.cell? ⟨z, 1, none⟩ = some (.int .i64 A) ∧ w4.cell? ⟨z, 2, none⟩ = some (.int .i64 G)) ∧  Hid (w4.heap[z]? = some (.cells #[.int .i64 K, .int .i64 A, .int .i64 G] 67 (0, 0)) ∧ Wr w w4 p q Z2))) := Lib.hid fun V hb => (h2.l V hb).mono fun e wz ⟨e1, h, h3⟩ => ⟨e1, ⟨cell_of h rfl, cell_of h rfl⟩, Lib.hid fun V' hb' => (h3 V' hb').mono fun e w4 ⟨e2, h, h5⟩ => ⟨e2, ⟨cell_of h rfl, cell_of h rfl⟩, Lib.hid ⟨h, h5⟩⟩⟩
          have hD : Hid (∀ V, Below w3.heap.size w3 V → Calls Try.prog 39 #[.pointer (some ⟨q, 0, none⟩), .int .i64 A, .int .i64 G] V fun e wz => e = .returned (.int .i64 r) ∧ (wz.cell? ⟨z, 1, none⟩ = some (.int .i64 A) ∧ wz.cell? ⟨z, 2, none⟩ = some (.int .i64 G)) ∧ Hid (∀ V', Below wz.heap.size wz V' → Calls Try.prog 38 #[.pointer (some ⟨p, 0, none⟩), .int .i64 A, .int .i64 G] V' fun e w4 => e = .returned (.int .i64 r) ∧ (w4.cell? ⟨z, 1, none⟩ = some (.int .i64 A) ∧ w4.cell? ⟨z, 2, none⟩ = some (.int .i64 G)) ∧  Hid (w4.heap[z]? = some (.cells #[.int .i64 K, .int .i64 A, .int .i64 G] 67 (0, 0)) ∧ Wr w w4 p q Z2))) := Lib.hid fun V hb => (h2.r V hb).mono fun e wz ⟨e1, h, h3⟩ => ⟨e1, ⟨cell_of h rfl, cell_of h rfl⟩, Lib.hid fun V' hb' => (h3 V' hb').mono fun e w4 ⟨e2, h, h5⟩ => ⟨e2, ⟨cell_of h rfl, cell_of h rfl⟩, Lib.hid ⟨h, h5⟩⟩⟩
          have c1 := cell_of hx.out (j := 1) rfl
          have c2 := cell_of hx.out (j := 2) rfl
          clear h2 k1 k2 hR2 hZ2 hZ hZk hx hcells
          have hbd : Below w3.heap.size w3 w3.drew := (Below.refl _ _).drew
          go_wp2_with fail
          go_region_held3 (fun W' => W'.cell? ⟨z, 1, none⟩ = some (.int .i64 A) ∧ W'.cell? ⟨z, 2, none⟩ = some (.int .i64 G)) (first | exact ⟨c1, c2⟩ | go_keep | assumption | (go_split_ands; exact ⟨cell_then (by assumption) (by assumption), cell_then (by assumption) (by assumption)⟩)) (first | (go_at_call 39; ((with_reducible refine (hD2.out _ (by repeat (first | assumption | exact Below.refl _ _ | refine below_drewN ?_ _ | refine below_alloc ?_ _ | refine below_then ?_ (by assumption)))).mono ?_); rintro e w4 ⟨rfl, hk4, hEnd⟩)) | (go_at_call 38; ((with_reducible refine (hP2.out _ (by repeat (first | assumption | exact Below.refl _ _ | refine below_drewN ?_ _ | refine below_alloc ?_ _ | refine below_then ?_ (by assumption)))).mono ?_); rintro e w4 ⟨rfl, hk4, hEnd⟩)) | (go_at_call 38; ((with_reducible refine (hP.out _ (by repeat (first | assumption | exact Below.refl _ _ | refine below_drewN ?_ _ | refine below_alloc ?_ _ | refine below_then ?_ (by assumption)))).mono ?_); rintro e wz ⟨rfl, hkz, hD2⟩)) | (go_at_call 39; ((with_reducible refine (hD.out _ (by repeat (first | assumption | exact Below.refl _ _ | refine below_drewN ?_ _ | refine below_alloc ?_ _ | refine below_then ?_ (by assumption)))).mono ?_); rintro e wz ⟨rfl, hkz, hP2⟩)))
          all_goals
            have hE := hFin.out _ hEnd.out.1 hEnd.out.2
            go_wp2_with fail
            go_meet
            exact hE
        · skip
          obtain ⟨r, Z2, hZ2, k1, k2⟩ := wait_both Z A G hZk.out (by omega)
          have h2 : Two w w3 p q z (.cells #[.int .i64 K, .int .i64 A, .int .i64 G] 67 (0, 0)) 38 39 #[.pointer (some ⟨p, 0, none⟩), .int .i64 A, .int .i64 G] #[.pointer (some ⟨q, 0, none⟩), .int .i64 A, .int .i64 G] (.int .i64 r) Z2 := by
            obtain ⟨H, Hx, h, n1, n2⟩ := hR2.out
            exact two_of h hx.out n1 n2 k1 k2
          have hFin : Hid (∀ w4 : World, w4.heap[z]? = some (.cells #[.int .i64 K, .int .i64 A, .int .i64 G] 67 (0, 0)) → Wr w w4 p q Z2 → (∃ Z2, Hid (∀ j, j < 32 → (Z2 j).length ≤ k + 1) ∧ Hid (Wr w w4 p q Z2) ∧ Hid (w4.heap[z]? = some (.cells #[.int .i64 K, .int .i64 A, .int .i64 G] 67 (0, 0))))) := Lib.hid fun w4 h1 h2 => ⟨Z2, Lib.hid (fun j hj => by have := hZ2 j hj; omega), Lib.hid h2, Lib.hid h1⟩
          have hP : Hid (∀ V, Below w3.heap.size w3 V → Calls Try.prog 38 #[.pointer (some ⟨p, 0, none⟩), .int .i64 A, .int .i64 G] V fun e wz => e = .returned (.int .i64 r) ∧ (wz.cell? ⟨z, 1, none⟩ = some (.int .i64 A) ∧ wz.cell? ⟨z, 2, none⟩ = some (.int .i64 G)) ∧ Hid (∀ V', Below wz.heap.size wz V' → Calls Try.prog 39 #[.pointer (some ⟨q, 0, none⟩), .int .i64 A, .int .i64 G] V' fun e w4 => e = .returned (.int .i64 r) ∧ (w4.cell? ⟨z, 1, none⟩ = some (.int .i64 A) ∧ w4.cell? ⟨z, 2, none⟩ = some (.int .i64 G)) ∧  Hid (w4.heap[z]? = some (.cells #[.int .i64 K, .int .i64 A, .int .i64 G] 67 (0, 0)) ∧ Wr w w4 p q Z2))) := Lib.hid fun V hb => (h2.l V hb).mono fun e wz ⟨e1, h, h3⟩ => ⟨e1, ⟨cell_of h rfl, cell_of h rfl⟩, Lib.hid fun V' hb' => (h3 V' hb').mono fun e w4 ⟨e2, h, h5⟩ => ⟨e2, ⟨cell_of h rfl, cell_of h rfl⟩, Lib.hid ⟨h, h5⟩⟩⟩
          have hD : Hid (∀ V, Below w3.heap.size w3 V → Calls Try.prog 39 #[.pointer (some ⟨q, 0, none⟩), .int .i64 A, .int .i64 G] V fun e wz => e = .returned (.int .i64 r) ∧ (wz.cell? ⟨z, 1, none⟩ = some (.int .i64 A) ∧ wz.cell? ⟨z, 2, none⟩ = some (.int .i64 G)) ∧ Hid (∀ V', Below wz.heap.size wz V' → Calls Try.prog 38 #[.pointer (some ⟨p, 0, none⟩), .int .i64 A, .int .i64 G] V' fun e w4 => e = .returned (.int .i64 r) ∧ (w4.cell? ⟨z, 1, none⟩ = some (.int .i64 A) ∧ w4.cell? ⟨z, 2, none⟩ = some (.int .i64 G)) ∧  Hid (w4.heap[z]? = some (.cells #[.int .i64 K, .int .i64 A, .int .i64 G] 67 (0, 0)) ∧ Wr w w4 p q Z2))) := Lib.hid fun V hb => (h2.r V hb).mono fun e wz ⟨e1, h, h3⟩ => ⟨e1, ⟨cell_of h rfl, cell_of h rfl⟩, Lib.hid fun V' hb' => (h3 V' hb').mono fun e w4 ⟨e2, h, h5⟩ => ⟨e2, ⟨cell_of h rfl, cell_of h rfl⟩, Lib.hid ⟨h, h5⟩⟩⟩
          have c1 := cell_of hx.out (j := 1) rfl
          have c2 := cell_of hx.out (j := 2) rfl
          clear h2 k1 k2 hR2 hZ2 hZ hZk hx hcells
          have hbd : Below w3.heap.size w3 w3.drew := (Below.refl _ _).drew
          go_wp2_with fail
          go_region_held3 (fun W' => W'.cell? ⟨z, 1, none⟩ = some (.int .i64 A) ∧ W'.cell? ⟨z, 2, none⟩ = some (.int .i64 G)) (first | exact ⟨c1, c2⟩ | go_keep | assumption | (go_split_ands; exact ⟨cell_then (by assumption) (by assumption), cell_then (by assumption) (by assumption)⟩)) (first | (go_at_call 39; ((with_reducible refine (hD2.out _ (by repeat (first | assumption | exact Below.refl _ _ | refine below_drewN ?_ _ | refine below_alloc ?_ _ | refine below_then ?_ (by assumption)))).mono ?_); rintro e w4 ⟨rfl, hk4, hEnd⟩)) | (go_at_call 38; ((with_reducible refine (hP2.out _ (by repeat (first | assumption | exact Below.refl _ _ | refine below_drewN ?_ _ | refine below_alloc ?_ _ | refine below_then ?_ (by assumption)))).mono ?_); rintro e w4 ⟨rfl, hk4, hEnd⟩)) | (go_at_call 38; ((with_reducible refine (hP.out _ (by repeat (first | assumption | exact Below.refl _ _ | refine below_drewN ?_ _ | refine below_alloc ?_ _ | refine below_then ?_ (by assumption)))).mono ?_); rintro e wz ⟨rfl, hkz, hD2⟩)) | (go_at_call 39; ((with_reducible refine (hD.out _ (by repeat (first | assumption | exact Below.refl _ _ | refine below_drewN ?_ _ | refine below_alloc ?_ _ | refine below_then ?_ (by assumption)))).mono ?_); rintro e wz ⟨rfl, hkz, hP2⟩)))
          all_goals
            have hE := hFin.out _ hEnd.out.1 hEnd.out.2
            go_wp2_with fail
            go_meet
            exact hE
        · skip
          obtain ⟨r, o, Z2, hZ2, c1, c2⟩ := wake_both Z A hZk.out
          obtain ⟨H, Hx, h, n1, n2⟩ := hR2.out
          have k1 := c1 h.s
          have c1' := cell_of hx.out (j := 1) rfl
          replace h := Lib.hid h
          have hc2 : Hid (∀ {W0 W p H}, Sx W0 W p H Z → Calls Try.prog 41 #[.pointer (some ⟨p, 0, none⟩), .int .i64 A] W (StepX (.tuple #[.int .i64 r, .bool o]) W0 W p H Z2)) := Lib.hid c2
          clear c1 c2 hR2 hZ hZk hcells
          go_wp2_with fail
          with_reducible refine Calls.mono k1 ?_
          rintro e w4 ⟨rfl, H4, hw4, hs4⟩
          have h4 := h.out.left hw4 hs4
          have hx4 := (hw4.block z (block_lt hx.out) n1).trans hx.out
          have k2 := hc2.out h4.x
          have c1'' := cell_of hx4 (j := 1) rfl
          replace h4 := Lib.hid h4
          replace hx4 := Lib.hid hx4
          clear k1 hw4 hs4 hc2 h hx c1' d9
          go_wp2_with fail
          with_reducible refine Calls.mono k2 ?_
          rintro e w5 ⟨rfl, H5, hw5, hs5⟩
          have h5 := Lib.hid (h4.out.right hw5 hs5)
          have hx5 := Lib.hid ((hw5.block z (block_lt hx4.out) n2).trans hx4.out)
          clear k2 hw5 hs5 c1'' h4 hx4
          go_wp2_with fail
          go_meet
          exact ⟨Z2, Lib.hid (fun j hj => by have := hZ2 j hj; omega), Lib.hid ⟨_, _, h5.out⟩, hx5⟩
        · skip
          obtain ⟨r, o, Z2, hZ2, c1, c2⟩ := wake_both Z A hZk.out
          obtain ⟨H, Hx, h, n1, n2⟩ := hR2.out
          have k1 := c1 h.s
          have c1' := cell_of hx.out (j := 1) rfl
          replace h := Lib.hid h
          have hc2 : Hid (∀ {W0 W p H}, Sx W0 W p H Z → Calls Try.prog 41 #[.pointer (some ⟨p, 0, none⟩), .int .i64 A] W (StepX (.tuple #[.int .i64 r, .bool o]) W0 W p H Z2)) := Lib.hid c2
          clear c1 c2 hR2 hZ hZk hcells
          go_wp2_with fail
          with_reducible refine Calls.mono k1 ?_
          rintro e w4 ⟨rfl, H4, hw4, hs4⟩
          have h4 := h.out.left hw4 hs4
          have hx4 := (hw4.block z (block_lt hx.out) n1).trans hx.out
          have k2 := hc2.out h4.x
          have c1'' := cell_of hx4 (j := 1) rfl
          replace h4 := Lib.hid h4
          replace hx4 := Lib.hid hx4
          clear k1 hw4 hs4 hc2 h hx c1' d9
          go_wp2_with fail
          with_reducible refine Calls.mono k2 ?_
          rintro e w5 ⟨rfl, H5, hw5, hs5⟩
          have h5 := Lib.hid (h4.out.right hw5 hs5)
          have hx5 := Lib.hid ((hw5.block z (block_lt hx4.out) n2).trans hx4.out)
          clear k2 hw5 hs5 c1'' h4 hx4
          go_wp2_with fail
          go_meet
          exact ⟨Z2, Lib.hid (fun j hj => by have := hZ2 j hj; omega), Lib.hid ⟨_, _, h5.out⟩, hx5⟩
        · skip
          obtain ⟨r, Z2, hZ2, k1, k2⟩ := del_both Z G hZk.out (by omega)
          have h2 : Two w w3 p q z (.cells #[.int .i64 K, .int .i64 A, .int .i64 G] 67 (0, 0)) 42 43 #[.pointer (some ⟨p, 0, none⟩), .int .i64 G] #[.pointer (some ⟨q, 0, none⟩), .int .i64 G] (.bool r) Z2 := by
            obtain ⟨H, Hx, h, n1, n2⟩ := hR2.out
            exact two_of h hx.out n1 n2 k1 k2
          have hFin : Hid (∀ w4 : World, w4.heap[z]? = some (.cells #[.int .i64 K, .int .i64 A, .int .i64 G] 67 (0, 0)) → Wr w w4 p q Z2 → (∃ Z2, Hid (∀ j, j < 32 → (Z2 j).length ≤ k + 1) ∧ Hid (Wr w w4 p q Z2) ∧ Hid (w4.heap[z]? = some (.cells #[.int .i64 K, .int .i64 A, .int .i64 G] 67 (0, 0))))) := Lib.hid fun w4 h1 h2 => ⟨Z2, Lib.hid (fun j hj => by have := hZ2 j hj; omega), Lib.hid h2, Lib.hid h1⟩
          have hP : Hid (∀ V, Below w3.heap.size w3 V → Calls Try.prog 42 #[.pointer (some ⟨p, 0, none⟩), .int .i64 G] V fun e wz => e = .returned (.bool r) ∧ (wz.cell? ⟨z, 2, none⟩ = some (.int .i64 G)) ∧ Hid (∀ V', Below wz.heap.size wz V' → Calls Try.prog 43 #[.pointer (some ⟨q, 0, none⟩), .int .i64 G] V' fun e w4 => e = .returned (.bool r) ∧ (w4.cell? ⟨z, 2, none⟩ = some (.int .i64 G)) ∧  Hid (w4.heap[z]? = some (.cells #[.int .i64 K, .int .i64 A, .int .i64 G] 67 (0, 0)) ∧ Wr w w4 p q Z2))) := Lib.hid fun V hb => (h2.l V hb).mono fun e wz ⟨e1, h, h3⟩ => ⟨e1, cell_of h rfl, Lib.hid fun V' hb' => (h3 V' hb').mono fun e w4 ⟨e2, h, h5⟩ => ⟨e2, cell_of h rfl, Lib.hid ⟨h, h5⟩⟩⟩
          have hD : Hid (∀ V, Below w3.heap.size w3 V → Calls Try.prog 43 #[.pointer (some ⟨q, 0, none⟩), .int .i64 G] V fun e wz => e = .returned (.bool r) ∧ (wz.cell? ⟨z, 2, none⟩ = some (.int .i64 G)) ∧ Hid (∀ V', Below wz.heap.size wz V' → Calls Try.prog 42 #[.pointer (some ⟨p, 0, none⟩), .int .i64 G] V' fun e w4 => e = .returned (.bool r) ∧ (w4.cell? ⟨z, 2, none⟩ = some (.int .i64 G)) ∧  Hid (w4.heap[z]? = some (.cells #[.int .i64 K, .int .i64 A, .int .i64 G] 67 (0, 0)) ∧ Wr w w4 p q Z2))) := Lib.hid fun V hb => (h2.r V hb).mono fun e wz ⟨e1, h, h3⟩ => ⟨e1, cell_of h rfl, Lib.hid fun V' hb' => (h3 V' hb').mono fun e w4 ⟨e2, h, h5⟩ => ⟨e2, cell_of h rfl, Lib.hid ⟨h, h5⟩⟩⟩
          have c2 := cell_of hx.out (j := 2) rfl
          clear h2 k1 k2 hR2 hZ2 hZ hZk hx hcells
          have hbd : Below w3.heap.size w3 w3.drew := (Below.refl _ _).drew
          go_wp2_with fail
          go_region_held3 (fun W' => W'.cell? ⟨z, 2, none⟩ = some (.int .i64 G)) (first | exact c2 | go_keep | assumption | (exact cell_then (by assumption) (by assumption))) (first | (go_at_call 43; ((with_reducible refine (hD2.out _ (by repeat (first | assumption | exact Below.refl _ _ | refine below_drewN ?_ _ | refine below_alloc ?_ _ | refine below_then ?_ (by assumption)))).mono ?_); rintro e w4 ⟨rfl, hk4, hEnd⟩)) | (go_at_call 42; ((with_reducible refine (hP2.out _ (by repeat (first | assumption | exact Below.refl _ _ | refine below_drewN ?_ _ | refine below_alloc ?_ _ | refine below_then ?_ (by assumption)))).mono ?_); rintro e w4 ⟨rfl, hk4, hEnd⟩)) | (go_at_call 42; ((with_reducible refine (hP.out _ (by repeat (first | assumption | exact Below.refl _ _ | refine below_drewN ?_ _ | refine below_alloc ?_ _ | refine below_then ?_ (by assumption)))).mono ?_); rintro e wz ⟨rfl, hkz, hD2⟩)) | (go_at_call 43; ((with_reducible refine (hD.out _ (by repeat (first | assumption | exact Below.refl _ _ | refine below_drewN ?_ _ | refine below_alloc ?_ _ | refine below_then ?_ (by assumption)))).mono ?_); rintro e wz ⟨rfl, hkz, hP2⟩)))
          all_goals
            have hE := hFin.out _ hEnd.out.1 hEnd.out.2
            go_wp2_with fail
            go_meet
            exact hE
      case rest =>
        obtain ⟨Z2, hZ2, hR2, hx2⟩ := hcut
        clear hZ hZk hx d9 hcells d0 d1 d2
        have c1 := cell_of hx2.out (j := 1) rfl
        have hs60 : ∀ k, k ≤ 32 → sumZ Z2 k ≤ 1000000 := fun k' hk' => by have := sum_le (b := k + 1) hZ2.out k' hk'; have h3 : k' * (k + 1) ≤ 32 * (k + 1) := Nat.mul_le_mul_right _ hk'; omega
        obtain ⟨H, Hx, h⟩ := hR2.out
        have cL : Hid (∀ W', Wk w wc W' p q H Hx Z2 Z2 → Calls Try.prog 44 #[.pointer (some ⟨p, 0, none⟩)] W' (Still (.int .i64 (sumZ Z2 32 : Nat)) W')) := Lib.hid fun W' h => len_any h.q.s hs60
        have cR : Hid (∀ W', Wk w wc W' p q H Hx Z2 Z2 → Calls Try.prog 45 #[.pointer (some ⟨q, 0, none⟩)] W' (Still (.int .i64 (sumZ Z2 32 : Nat)) W')) := Lib.hid fun W' h => rlen_any h.q.x hs60
        generalize sumZ Z2 32 = sm at *
        have hsd : Wk w wc wc.drew p q H Hx Z2 Z2 := ⟨h.below (Below.refl _ _).drew, (Below.refl _ _).drew⟩
        have hkk : Hid (∀ W', Wk w wc W' p q H Hx Z2 Z2 → ∃ (k' : Nat) (Z : Nat → List Int), (.int .i64 ((k : Int) + 1) : Value) = .int .i64 k' ∧ k' ≤ l ∧ k' ≤ 60 ∧ Hid (∀ j, j < 32 → (Z j).length ≤ k') ∧ Hid (Wr w W' p q Z)) := Lib.hid fun W' h => ⟨k + 1, Z2, rfl, by omega, by omega, hZ2, Lib.hid ⟨_, _, h.q⟩⟩
        clear hs60 hR2
        by_cases hA : 0 ≤ A ∧ A < 32
        · obtain ⟨a, rfl⟩ : ∃ a : Nat, A = (a : Int) := ⟨A.toNat, by omega⟩
          have a32 : a < 32 := by omega
          have a0 : (0 : Int) ≤ (a : Int) := hA.1
          have a3 : (a : Int) < 32 := hA.2
          obtain ⟨V, hV, hlV, hbV, hHV⟩ := h.x
          have d1 := (hV.cell a32).1
          obtain ⟨s0, q0, e0⟩ := (hV.row a a32).slice
          have cA : Hid (∀ W', Wk w wc W' p q H Hx Z2 Z2 → Calls Try.prog 46 #[.pointer (some ⟨p, 0, none⟩), .int .i64 (a : Nat)] W' fun e w2 => ∃ v', e = .returned v' ∧ Below W'.heap.size W' w2 ∧ Ints w2 (fun _ => True) v' (Z2 a)) := Lib.hid fun W' h => (all_in h.q.s a32 (by have := hZ2.out a a32; omega)).mono fun e w2 ⟨v', a, b, c⟩ => ⟨v', a, b, c.wider (fun _ _ _ => trivial)⟩
          have cI : Hid (∀ W' v', Ints W' (fun _ => True) v' (Z2 a) → Wk w wc W' p q H Hx Z2 Z2 → Calls Try.prog 24 #[v', V a] W' (AnsB (.bool true) W')) := Lib.hid fun W' v' hv hb => (ints_any hv ((hV.ints a32).below hb.b)).mono fun _ _ h => h.below
          rw [e0] at d1 cI
          clear h hV hlV hbV hHV e0 hZ2 hA
          go_wp2_with fail
          refine wp_region_held_drew (S := fun W' => Wk w wc W' p q H Hx Z2 Z2 ∧ W'.cell? ⟨z, 1, none⟩ = some (.int .i64 a) ∧ W'.cell? ⟨q, a, none⟩ = some (.slice s0 (Z2 a).length q0)) (by kernel_rfl) (by exact ⟨hsd, c1, d1⟩) (fun hHeld => ?_)
          try (refine wpAnyH_take (i := 0) rfl (by kernel_rfl) (by decide +kernel) (by decide +kernel) (fun _ _ _ h => h) (Or.inl ⟨by kernel_rfl, by (intro w hSw; (try dsimp only at hSw); go_simp; try with_reducible rfl)⟩) (by assumption) ?_; try simp only [Act.put, List.getElem_toArray, List.getElem_cons_zero, List.setIfInBounds_toArray, List.set_cons_zero, List.set_cons_succ])
          try (refine wpAnyH_take (i := 2) rfl (by kernel_rfl) (by decide +kernel) (by decide +kernel) (fun _ _ _ h => h) (Or.inl ⟨by kernel_rfl, by (intro w hSw; (try dsimp only at hSw); go_simp; try with_reducible rfl)⟩) (by assumption) ?_; try simp only [Act.put, List.getElem_toArray, List.getElem_cons_succ, List.getElem_cons_zero, List.setIfInBounds_toArray, List.set_cons_zero, List.set_cons_succ])
          refine wpAnyH_ready (rs := [1]) (by decide +kernel) (by simp) ?_
          refine AllReadyH.cons rfl (fun K hK => ?_) AllReadyH.nil
          (go_simp; (go_at_call 44; ((with_reducible refine (cL.out _ (by exact (by assumption : _ ∧ _).1)).mono ?_); rintro e w' ⟨rfl, rfl⟩)))
          try go_simp
          refine hK.out _ _ (by first | assumption | exact ⟨hsd, c1, d1⟩ | (go_split_ands; exact ⟨Wk.below (by assumption) (by assumption), cell_then (by assumption) (by assumption), cell_then (by assumption) (by assumption)⟩)) (fun hHeld => ?_)
          clear hK K
          try simp only [Act.put, List.getElem_toArray, List.getElem_cons_succ, List.getElem_cons_zero, List.setIfInBounds_toArray, List.set_cons_zero, List.set_cons_succ]
          refine wpAnyH_ready (rs := [3]) (by decide +kernel) (by simp) ?_
          refine AllReadyH.cons rfl (fun K hK => ?_) AllReadyH.nil
          (go_simp; (go_at_call 45; ((with_reducible refine (cR.out _ (by exact (by assumption : _ ∧ _).1)).mono ?_); rintro e w' ⟨rfl, rfl⟩)))
          try go_simp
          refine hK.out _ _ (by first | assumption | exact ⟨hsd, c1, d1⟩ | (go_split_ands; exact ⟨Wk.below (by assumption) (by assumption), cell_then (by assumption) (by assumption), cell_then (by assumption) (by assumption)⟩)) (fun hHeld => ?_)
          clear hK K
          try simp only [Act.put, List.getElem_toArray, List.getElem_cons_succ, List.getElem_cons_zero, List.setIfInBounds_toArray, List.set_cons_zero, List.set_cons_succ]
          try (refine wpAnyH_take (i := 4) rfl (by kernel_rfl) (by decide +kernel) (by decide +kernel) (fun _ _ _ h => h) (Or.inl ⟨by kernel_rfl, by (intro w hSw; (try dsimp only at hSw); go_simp; try with_reducible rfl)⟩) (by assumption) ?_; try simp only [Act.put, List.getElem_toArray, List.getElem_cons_succ, List.getElem_cons_zero, List.setIfInBounds_toArray, List.set_cons_zero, List.set_cons_succ])
          try (refine wpAnyH_take (i := 5) rfl (by kernel_rfl) (by decide +kernel) (by decide +kernel) (fun _ _ _ h => h) (Or.inl ⟨by kernel_rfl, by (intro w hSw; (try dsimp only at hSw); go_simp; try with_reducible rfl)⟩) (by assumption) ?_; try simp only [Act.put, List.getElem_toArray, List.getElem_cons_succ, List.getElem_cons_zero, List.setIfInBounds_toArray, List.set_cons_zero, List.set_cons_succ])
          try (refine wpAnyH_take (i := 6) rfl (by kernel_rfl) (by decide +kernel) (by decide +kernel) (fun _ _ _ h => h) (Or.inl ⟨by kernel_rfl, by (intro w hSw; (try dsimp only at hSw); go_simp; try with_reducible rfl)⟩) (by assumption) ?_; try simp only [Act.put, List.getElem_toArray, List.getElem_cons_succ, List.getElem_cons_zero, List.setIfInBounds_toArray, List.set_cons_zero, List.set_cons_succ])
          try (refine wpAnyH_take (i := 7) rfl (by kernel_rfl) (by decide +kernel) (by decide +kernel) (fun _ _ _ h => h) (Or.inl ⟨by kernel_rfl, by (intro w hSw; (try dsimp only at hSw); go_simp; try with_reducible rfl)⟩) (by assumption) ?_; try simp only [Act.put, List.getElem_toArray, List.getElem_cons_succ, List.getElem_cons_zero, List.setIfInBounds_toArray, List.set_cons_zero, List.set_cons_succ])
          try (refine wpAnyH_take (i := 8) rfl (by kernel_rfl) (by decide +kernel) (by decide +kernel) (fun _ _ _ h => h) (Or.inl ⟨by kernel_rfl, by (intro w hSw; (try dsimp only at hSw); go_simp; try with_reducible rfl)⟩) (by assumption) ?_; try simp only [Act.put, List.getElem_toArray, List.getElem_cons_succ, List.getElem_cons_zero, List.setIfInBounds_toArray, List.set_cons_zero, List.set_cons_succ])
          try (refine wpAnyH_take (i := 9) rfl (by kernel_rfl) (by decide +kernel) (by decide +kernel) (fun _ _ _ h => h) (Or.inl ⟨by kernel_rfl, by (intro w hSw; (try dsimp only at hSw); go_simp; try with_reducible rfl)⟩) (by assumption) ?_; try simp only [Act.put, List.getElem_toArray, List.getElem_cons_succ, List.getElem_cons_zero, List.setIfInBounds_toArray, List.set_cons_zero, List.set_cons_succ])
          try (refine wpAnyH_take (i := 10) rfl (by kernel_rfl) (by decide +kernel) (by decide +kernel) (fun _ _ _ h => h) (Or.inl ⟨by kernel_rfl, by (intro w hSw; (try dsimp only at hSw); go_simp; try with_reducible rfl)⟩) (by assumption) ?_; try simp only [Act.put, List.getElem_toArray, List.getElem_cons_succ, List.getElem_cons_zero, List.setIfInBounds_toArray, List.set_cons_zero, List.set_cons_succ])
          try (refine wpAnyH_take (i := 12) rfl (by kernel_rfl) (by decide +kernel) (by decide +kernel) (fun _ _ _ h => h) (Or.inl ⟨by kernel_rfl, by (intro w hSw; (try dsimp only at hSw); go_simp; try with_reducible rfl)⟩) (by assumption) ?_; try simp only [Act.put, List.getElem_toArray, List.getElem_cons_succ, List.getElem_cons_zero, List.setIfInBounds_toArray, List.set_cons_zero, List.set_cons_succ])
          try (refine wpAnyH_take (i := 13) rfl (by kernel_rfl) (by decide +kernel) (by decide +kernel) (fun _ _ _ h => h) (Or.inl ⟨by kernel_rfl, by (intro w hSw; (try dsimp only at hSw); go_simp; try with_reducible rfl)⟩) (by assumption) ?_; try simp only [Act.put, List.getElem_toArray, List.getElem_cons_succ, List.getElem_cons_zero, List.setIfInBounds_toArray, List.set_cons_zero, List.set_cons_succ])
          try (refine wpAnyH_take (i := 14) rfl (by kernel_rfl) (by decide +kernel) (by decide +kernel) (fun _ _ _ h => h) (Or.inl ⟨by kernel_rfl, by (intro w hSw; (try dsimp only at hSw); go_simp; try with_reducible rfl)⟩) (by assumption) ?_; try simp only [Act.put, List.getElem_toArray, List.getElem_cons_succ, List.getElem_cons_zero, List.setIfInBounds_toArray, List.set_cons_zero, List.set_cons_succ])
          try (refine wpAnyH_take (i := 15) rfl (by kernel_rfl) (by decide +kernel) (by decide +kernel) (fun _ _ _ h => h) (Or.inl ⟨by kernel_rfl, by (intro w hSw; (try dsimp only at hSw); go_simp; try with_reducible rfl)⟩) (by assumption) ?_; try simp only [Act.put, List.getElem_toArray, List.getElem_cons_succ, List.getElem_cons_zero, List.setIfInBounds_toArray, List.set_cons_zero, List.set_cons_succ])
          try (refine wpAnyH_take (i := 16) rfl (by kernel_rfl) (by decide +kernel) (by decide +kernel) (fun _ _ _ h => h) (Or.inl ⟨by kernel_rfl, by (intro w hSw; (try dsimp only at hSw); go_simp; try with_reducible rfl)⟩) (by assumption) ?_; try simp only [Act.put, List.getElem_toArray, List.getElem_cons_succ, List.getElem_cons_zero, List.setIfInBounds_toArray, List.set_cons_zero, List.set_cons_succ])
          try (refine wpAnyH_take (i := 17) rfl (by kernel_rfl) (by decide +kernel) (by decide +kernel) (fun _ _ _ h => h) (Or.inl ⟨by kernel_rfl, by (intro w hSw; (try dsimp only at hSw); go_simp; try with_reducible rfl)⟩) (by assumption) ?_; try simp only [Act.put, List.getElem_toArray, List.getElem_cons_succ, List.getElem_cons_zero, List.setIfInBounds_toArray, List.set_cons_zero, List.set_cons_succ])
          try (refine wpAnyH_take (i := 18) rfl (by kernel_rfl) (by decide +kernel) (by decide +kernel) (fun _ _ _ h => h) (Or.inl ⟨by kernel_rfl, by (intro w hSw; (try dsimp only at hSw); go_simp; try with_reducible rfl)⟩) (by assumption) ?_; try simp only [Act.put, List.getElem_toArray, List.getElem_cons_succ, List.getElem_cons_zero, List.setIfInBounds_toArray, List.set_cons_zero, List.set_cons_succ])
          refine wpAnyH_ready (rs := [11]) (by decide +kernel) (by simp) ?_
          refine AllReadyH.cons rfl (fun K hK => ?_) AllReadyH.nil
          (go_simp; (go_at_call 46; ((with_reducible refine (cA.out _ (by exact (by assumption : _ ∧ _).1)).mono ?_); rintro e wA ⟨v', rfl, hb, hv⟩)))
          try go_simp
          refine hK.out _ _ (by first | assumption | exact ⟨hsd, c1, d1⟩ | (go_split_ands; exact ⟨Wk.below (by assumption) (by assumption), cell_then (by assumption) (by assumption), cell_then (by assumption) (by assumption)⟩)) (fun hHeld => ?_)
          clear hK K
          try simp only [Act.put, List.getElem_toArray, List.getElem_cons_succ, List.getElem_cons_zero, List.setIfInBounds_toArray, List.set_cons_zero, List.set_cons_succ]
          refine wpAnyH_ready (rs := [19]) (by decide +kernel) (by simp) ?_
          refine AllReadyH.cons rfl (fun K hK => ?_) AllReadyH.nil
          (go_simp; (go_at_call 24; ((with_reducible refine (cI.out _ _ (by assumption) (by exact (by assumption : _ ∧ _).1)).mono ?_); rintro e w' ⟨rfl, hb⟩)))
          try go_simp
          refine hK.out _ _ (by first | assumption | exact ⟨hsd, c1, d1⟩ | (go_split_ands; exact ⟨Wk.below (by assumption) (by assumption), cell_then (by assumption) (by assumption), cell_then (by assumption) (by assumption)⟩)) (fun hHeld => ?_)
          clear hK K
          try simp only [Act.put, List.getElem_toArray, List.getElem_cons_succ, List.getElem_cons_zero, List.setIfInBounds_toArray, List.set_cons_zero, List.set_cons_succ]
          try (refine wpAnyH_take (i := 20) rfl (by kernel_rfl) (by decide +kernel) (by decide +kernel) (fun _ _ _ h => h) (Or.inl ⟨by kernel_rfl, by (intro w hSw; (try dsimp only at hSw); go_simp; try with_reducible rfl)⟩) (by assumption) ?_; try simp only [Act.put, List.getElem_toArray, List.getElem_cons_succ, List.getElem_cons_zero, List.setIfInBounds_toArray, List.set_cons_zero, List.set_cons_succ])
          try (refine wpAnyH_take (i := 21) rfl (by kernel_rfl) (by decide +kernel) (by decide +kernel) (fun _ _ _ h => h) (Or.inl ⟨by kernel_rfl, by (intro w hSw; (try dsimp only at hSw); go_simp; try with_reducible rfl)⟩) (by assumption) ?_; try simp only [Act.put, List.getElem_toArray, List.getElem_cons_succ, List.getElem_cons_zero, List.setIfInBounds_toArray, List.set_cons_zero, List.set_cons_succ])
          try (refine wpAnyH_take (i := 22) rfl (by kernel_rfl) (by decide +kernel) (by decide +kernel) (fun _ _ _ h => h) (Or.inl ⟨by kernel_rfl, by (intro w hSw; (try dsimp only at hSw); go_simp; try with_reducible rfl)⟩) (by assumption) ?_; try simp only [Act.put, List.getElem_toArray, List.getElem_cons_succ, List.getElem_cons_zero, List.setIfInBounds_toArray, List.set_cons_zero, List.set_cons_succ])
          try (refine wpAnyH_take (i := 23) rfl (by kernel_rfl) (by decide +kernel) (by decide +kernel) (fun _ _ _ h => h) (Or.inl ⟨by kernel_rfl, by (intro w hSw; (try dsimp only at hSw); go_simp; try with_reducible rfl)⟩) (by assumption) ?_; try simp only [Act.put, List.getElem_toArray, List.getElem_cons_succ, List.getElem_cons_zero, List.setIfInBounds_toArray, List.set_cons_zero, List.set_cons_succ])
          try (refine wpAnyH_take (i := 24) rfl (by kernel_rfl) (by decide +kernel) (by decide +kernel) (fun _ _ _ h => h) (Or.inl ⟨by kernel_rfl, by (intro w hSw; (try dsimp only at hSw); go_simp; try with_reducible rfl)⟩) (by assumption) ?_; try simp only [Act.put, List.getElem_toArray, List.getElem_cons_succ, List.getElem_cons_zero, List.setIfInBounds_toArray, List.set_cons_zero, List.set_cons_succ])
          try (refine wpAnyH_take (i := 25) rfl (by kernel_rfl) (by decide +kernel) (by decide +kernel) (fun _ _ _ h => h) (Or.inl ⟨by kernel_rfl, by (intro w hSw; (try dsimp only at hSw); go_simp; try with_reducible rfl)⟩) (by assumption) ?_; try simp only [Act.put, List.getElem_toArray, List.getElem_cons_succ, List.getElem_cons_zero, List.setIfInBounds_toArray, List.set_cons_zero, List.set_cons_succ])
          try (refine wpAnyH_take (i := 26) rfl (by kernel_rfl) (by decide +kernel) (by decide +kernel) (fun _ _ _ h => h) (Or.inl ⟨by kernel_rfl, by (intro w hSw; (try dsimp only at hSw); go_simp; try with_reducible rfl)⟩) (by assumption) ?_; try simp only [Act.put, List.getElem_toArray, List.getElem_cons_succ, List.getElem_cons_zero, List.setIfInBounds_toArray, List.set_cons_zero, List.set_cons_succ])
          try (refine wpAnyH_take (i := 27) rfl (by kernel_rfl) (by decide +kernel) (by decide +kernel) (fun _ _ _ h => h) (Or.inr ⟨by kernel_rfl, rfl⟩) (by assumption) ?_; try simp only [Act.put, List.getElem_toArray, List.getElem_cons_succ, List.getElem_cons_zero, List.setIfInBounds_toArray, List.set_cons_zero, List.set_cons_succ])
          try (refine wpAnyH_take (i := 28) rfl (by kernel_rfl) (by decide +kernel) (by decide +kernel) (fun _ _ _ h => h) (Or.inr ⟨by kernel_rfl, rfl⟩) (by assumption) ?_; try simp only [Act.put, List.getElem_toArray, List.getElem_cons_succ, List.getElem_cons_zero, List.setIfInBounds_toArray, List.set_cons_zero, List.set_cons_succ])
          try (refine wpAnyH_take (i := 29) rfl (by kernel_rfl) (by decide +kernel) (by decide +kernel) (fun _ _ _ h => h) (Or.inr ⟨by kernel_rfl, rfl⟩) (by assumption) ?_; try simp only [Act.put, List.getElem_toArray, List.getElem_cons_succ, List.getElem_cons_zero, List.setIfInBounds_toArray, List.set_cons_zero, List.set_cons_succ])
          try (refine wpAnyH_take (i := 30) rfl (by kernel_rfl) (by decide +kernel) (by decide +kernel) (fun _ _ _ h => h) (Or.inr ⟨by kernel_rfl, rfl⟩) (by assumption) ?_; try simp only [Act.put, List.getElem_toArray, List.getElem_cons_succ, List.getElem_cons_zero, List.setIfInBounds_toArray, List.set_cons_zero, List.set_cons_succ])
          try (refine wpAnyH_take (i := 31) rfl (by kernel_rfl) (by decide +kernel) (by decide +kernel) (fun _ _ _ h => h) (Or.inr ⟨by kernel_rfl, rfl⟩) (by assumption) ?_; try simp only [Act.put, List.getElem_toArray, List.getElem_cons_succ, List.getElem_cons_zero, List.setIfInBounds_toArray, List.set_cons_zero, List.set_cons_succ])
          try (refine wpAnyH_take (i := 32) rfl (by kernel_rfl) (by decide +kernel) (by decide +kernel) (fun _ _ _ h => h) (Or.inr ⟨by kernel_rfl, rfl⟩) (by assumption) ?_; try simp only [Act.put, List.getElem_toArray, List.getElem_cons_succ, List.getElem_cons_zero, List.setIfInBounds_toArray, List.set_cons_zero, List.set_cons_succ])
          try (refine wpAnyH_take (i := 33) rfl (by kernel_rfl) (by decide +kernel) (by decide +kernel) (fun _ _ _ h => h) (Or.inl ⟨by kernel_rfl, by (intro w hSw; (try dsimp only at hSw); go_simp; try with_reducible rfl)⟩) (by assumption) ?_; try simp only [Act.put, List.getElem_toArray, List.getElem_cons_succ, List.getElem_cons_zero, List.setIfInBounds_toArray, List.set_cons_zero, List.set_cons_succ])
          try (refine wpAnyH_take (i := 34) rfl (by kernel_rfl) (by decide +kernel) (by decide +kernel) (fun _ _ _ h => h) (Or.inl ⟨by kernel_rfl, by (intro w hSw; (try dsimp only at hSw); go_simp; try with_reducible rfl)⟩) (by assumption) ?_; try simp only [Act.put, List.getElem_toArray, List.getElem_cons_succ, List.getElem_cons_zero, List.setIfInBounds_toArray, List.set_cons_zero, List.set_cons_succ])
          refine wpAnyH_done (by kernel_rfl) ?_ _
          have hE := Lib.hid (hkk.out _ ((by assumption : Wk w wc _ p q H Hx Z2 Z2 ∧ _).1))
          clear cL cR cA cI hkk c1 d1 hv hb hHeld hsd
          try clear hHeld
          try clear hHeld
          go_wp2_with fail
          go_roundw
          case rel => exact hE.out
          case measure => simp [RowKit.intOf]; omega
        · have hA2 : A < 0 ∨ 32 ≤ A := by omega
          have cA : Hid (∀ W', Wk w wc W' p q H Hx Z2 Z2 → Calls Try.prog 46 #[.pointer (some ⟨p, 0, none⟩), .int .i64 A] W' (Still (.slice none 0 0) W')) := Lib.hid fun W' h => all_out A hA2 W'
          rcases (show ¬ 0 ≤ A ∨ (0 ≤ A ∧ ¬ A < 32) by omega) with g1 | ⟨g1, g2⟩
          all_goals
            clear h hZ2 hA hA2
            go_wp2_with fail
            refine wp_region_held_drew (S := fun W' => Wk w wc W' p q H Hx Z2 Z2 ∧ W'.cell? ⟨z, 1, none⟩ = some (.int .i64 A)) (by kernel_rfl) (by exact ⟨hsd, c1⟩) (fun hHeld => ?_)
            try (refine wpAnyH_take (i := 0) rfl (by kernel_rfl) (by decide +kernel) (by decide +kernel) (fun _ _ _ h => h) (Or.inl ⟨by kernel_rfl, by (intro w hSw; (try dsimp only at hSw); go_simp; try with_reducible rfl)⟩) (by assumption) ?_; try simp only [Act.put, List.getElem_toArray, List.getElem_cons_zero, List.setIfInBounds_toArray, List.set_cons_zero, List.set_cons_succ])
            try (refine wpAnyH_take (i := 2) rfl (by kernel_rfl) (by decide +kernel) (by decide +kernel) (fun _ _ _ h => h) (Or.inl ⟨by kernel_rfl, by (intro w hSw; (try dsimp only at hSw); go_simp; try with_reducible rfl)⟩) (by assumption) ?_; try simp only [Act.put, List.getElem_toArray, List.getElem_cons_succ, List.getElem_cons_zero, List.setIfInBounds_toArray, List.set_cons_zero, List.set_cons_succ])
            refine wpAnyH_ready (rs := [1]) (by decide +kernel) (by simp) ?_
            refine AllReadyH.cons rfl (fun K hK => ?_) AllReadyH.nil
            (go_simp; (go_at_call 44; ((with_reducible refine (cL.out _ (by exact (by assumption : _ ∧ _).1)).mono ?_); rintro e w' ⟨rfl, rfl⟩)))
            try go_simp
            refine hK.out _ _ (by first | assumption | exact ⟨hsd, c1⟩ | (go_split_ands; exact ⟨Wk.below (by assumption) (by assumption), cell_then (by assumption) (by assumption)⟩)) (fun hHeld => ?_)
            clear hK K
            try simp only [Act.put, List.getElem_toArray, List.getElem_cons_succ, List.getElem_cons_zero, List.setIfInBounds_toArray, List.set_cons_zero, List.set_cons_succ]
            refine wpAnyH_ready (rs := [3]) (by decide +kernel) (by simp) ?_
            refine AllReadyH.cons rfl (fun K hK => ?_) AllReadyH.nil
            (go_simp; (go_at_call 45; ((with_reducible refine (cR.out _ (by exact (by assumption : _ ∧ _).1)).mono ?_); rintro e w' ⟨rfl, rfl⟩)))
            try go_simp
            refine hK.out _ _ (by first | assumption | exact ⟨hsd, c1⟩ | (go_split_ands; exact ⟨Wk.below (by assumption) (by assumption), cell_then (by assumption) (by assumption)⟩)) (fun hHeld => ?_)
            clear hK K
            try simp only [Act.put, List.getElem_toArray, List.getElem_cons_succ, List.getElem_cons_zero, List.setIfInBounds_toArray, List.set_cons_zero, List.set_cons_succ]
            try (refine wpAnyH_take (i := 4) rfl (by kernel_rfl) (by decide +kernel) (by decide +kernel) (fun _ _ _ h => h) (Or.inl ⟨by kernel_rfl, by (intro w hSw; (try dsimp only at hSw); go_simp; try with_reducible rfl)⟩) (by assumption) ?_; try simp only [Act.put, List.getElem_toArray, List.getElem_cons_succ, List.getElem_cons_zero, List.setIfInBounds_toArray, List.set_cons_zero, List.set_cons_succ])
            try (refine wpAnyH_take (i := 5) rfl (by kernel_rfl) (by decide +kernel) (by decide +kernel) (fun _ _ _ h => h) (Or.inl ⟨by kernel_rfl, by (intro w hSw; (try dsimp only at hSw); go_simp; try with_reducible rfl)⟩) (by assumption) ?_; try simp only [Act.put, List.getElem_toArray, List.getElem_cons_succ, List.getElem_cons_zero, List.setIfInBounds_toArray, List.set_cons_zero, List.set_cons_succ])
            try (refine wpAnyH_take (i := 6) rfl (by kernel_rfl) (by decide +kernel) (by decide +kernel) (fun _ _ _ h => h) (Or.inl ⟨by kernel_rfl, by (intro w hSw; (try dsimp only at hSw); go_simp; try with_reducible rfl)⟩) (by assumption) ?_; try simp only [Act.put, List.getElem_toArray, List.getElem_cons_succ, List.getElem_cons_zero, List.setIfInBounds_toArray, List.set_cons_zero, List.set_cons_succ])
            try (refine wpAnyH_take (i := 7) rfl (by kernel_rfl) (by decide +kernel) (by decide +kernel) (fun _ _ _ h => h) (Or.inl ⟨by kernel_rfl, by (intro w hSw; (try dsimp only at hSw); go_simp; try with_reducible rfl)⟩) (by assumption) ?_; try simp only [Act.put, List.getElem_toArray, List.getElem_cons_succ, List.getElem_cons_zero, List.setIfInBounds_toArray, List.set_cons_zero, List.set_cons_succ])
            try (refine wpAnyH_take (i := 8) rfl (by kernel_rfl) (by decide +kernel) (by decide +kernel) (fun _ _ _ h => h) (Or.inr ⟨by kernel_rfl, rfl⟩) (by assumption) ?_; try simp only [Act.put, List.getElem_toArray, List.getElem_cons_succ, List.getElem_cons_zero, List.setIfInBounds_toArray, List.set_cons_zero, List.set_cons_succ])
            try (refine wpAnyH_take (i := 9) rfl (by kernel_rfl) (by decide +kernel) (by decide +kernel) (fun _ _ _ h => h) (Or.inr ⟨by kernel_rfl, rfl⟩) (by assumption) ?_; try simp only [Act.put, List.getElem_toArray, List.getElem_cons_succ, List.getElem_cons_zero, List.setIfInBounds_toArray, List.set_cons_zero, List.set_cons_succ])
            try (refine wpAnyH_take (i := 10) rfl (by kernel_rfl) (by decide +kernel) (by decide +kernel) (fun _ _ _ h => h) (Or.inr ⟨by kernel_rfl, rfl⟩) (by assumption) ?_; try simp only [Act.put, List.getElem_toArray, List.getElem_cons_succ, List.getElem_cons_zero, List.setIfInBounds_toArray, List.set_cons_zero, List.set_cons_succ])
            try (refine wpAnyH_take (i := 11) rfl (by kernel_rfl) (by decide +kernel) (by decide +kernel) (fun _ _ _ h => h) (Or.inr ⟨by kernel_rfl, rfl⟩) (by assumption) ?_; try simp only [Act.put, List.getElem_toArray, List.getElem_cons_succ, List.getElem_cons_zero, List.setIfInBounds_toArray, List.set_cons_zero, List.set_cons_succ])
            try (refine wpAnyH_take (i := 12) rfl (by kernel_rfl) (by decide +kernel) (by decide +kernel) (fun _ _ _ h => h) (Or.inr ⟨by kernel_rfl, rfl⟩) (by assumption) ?_; try simp only [Act.put, List.getElem_toArray, List.getElem_cons_succ, List.getElem_cons_zero, List.setIfInBounds_toArray, List.set_cons_zero, List.set_cons_succ])
            try (refine wpAnyH_take (i := 13) rfl (by kernel_rfl) (by decide +kernel) (by decide +kernel) (fun _ _ _ h => h) (Or.inr ⟨by kernel_rfl, rfl⟩) (by assumption) ?_; try simp only [Act.put, List.getElem_toArray, List.getElem_cons_succ, List.getElem_cons_zero, List.setIfInBounds_toArray, List.set_cons_zero, List.set_cons_succ])
            try (refine wpAnyH_take (i := 14) rfl (by kernel_rfl) (by decide +kernel) (by decide +kernel) (fun _ _ _ h => h) (Or.inr ⟨by kernel_rfl, rfl⟩) (by assumption) ?_; try simp only [Act.put, List.getElem_toArray, List.getElem_cons_succ, List.getElem_cons_zero, List.setIfInBounds_toArray, List.set_cons_zero, List.set_cons_succ])
            try (refine wpAnyH_take (i := 15) rfl (by kernel_rfl) (by decide +kernel) (by decide +kernel) (fun _ _ _ h => h) (Or.inr ⟨by kernel_rfl, rfl⟩) (by assumption) ?_; try simp only [Act.put, List.getElem_toArray, List.getElem_cons_succ, List.getElem_cons_zero, List.setIfInBounds_toArray, List.set_cons_zero, List.set_cons_succ])
            try (refine wpAnyH_take (i := 16) rfl (by kernel_rfl) (by decide +kernel) (by decide +kernel) (fun _ _ _ h => h) (Or.inr ⟨by kernel_rfl, rfl⟩) (by assumption) ?_; try simp only [Act.put, List.getElem_toArray, List.getElem_cons_succ, List.getElem_cons_zero, List.setIfInBounds_toArray, List.set_cons_zero, List.set_cons_succ])
            try (refine wpAnyH_take (i := 17) rfl (by kernel_rfl) (by decide +kernel) (by decide +kernel) (fun _ _ _ h => h) (Or.inr ⟨by kernel_rfl, rfl⟩) (by assumption) ?_; try simp only [Act.put, List.getElem_toArray, List.getElem_cons_succ, List.getElem_cons_zero, List.setIfInBounds_toArray, List.set_cons_zero, List.set_cons_succ])
            try (refine wpAnyH_take (i := 18) rfl (by kernel_rfl) (by decide +kernel) (by decide +kernel) (fun _ _ _ h => h) (Or.inr ⟨by kernel_rfl, rfl⟩) (by assumption) ?_; try simp only [Act.put, List.getElem_toArray, List.getElem_cons_succ, List.getElem_cons_zero, List.setIfInBounds_toArray, List.set_cons_zero, List.set_cons_succ])
            try (refine wpAnyH_take (i := 19) rfl (by kernel_rfl) (by decide +kernel) (by decide +kernel) (fun _ _ _ h => h) (Or.inr ⟨by kernel_rfl, rfl⟩) (by assumption) ?_; try simp only [Act.put, List.getElem_toArray, List.getElem_cons_succ, List.getElem_cons_zero, List.setIfInBounds_toArray, List.set_cons_zero, List.set_cons_succ])
            try (refine wpAnyH_take (i := 20) rfl (by kernel_rfl) (by decide +kernel) (by decide +kernel) (fun _ _ _ h => h) (Or.inr ⟨by kernel_rfl, rfl⟩) (by assumption) ?_; try simp only [Act.put, List.getElem_toArray, List.getElem_cons_succ, List.getElem_cons_zero, List.setIfInBounds_toArray, List.set_cons_zero, List.set_cons_succ])
            try (refine wpAnyH_take (i := 21) rfl (by kernel_rfl) (by decide +kernel) (by decide +kernel) (fun _ _ _ h => h) (Or.inl ⟨by kernel_rfl, by (intro w hSw; (try dsimp only at hSw); go_simp; try with_reducible rfl)⟩) (by assumption) ?_; try simp only [Act.put, List.getElem_toArray, List.getElem_cons_succ, List.getElem_cons_zero, List.setIfInBounds_toArray, List.set_cons_zero, List.set_cons_succ])
            try (refine wpAnyH_take (i := 22) rfl (by kernel_rfl) (by decide +kernel) (by decide +kernel) (fun _ _ _ h => h) (Or.inl ⟨by kernel_rfl, by (intro w hSw; (try dsimp only at hSw); go_simp; try with_reducible rfl)⟩) (by assumption) ?_; try simp only [Act.put, List.getElem_toArray, List.getElem_cons_succ, List.getElem_cons_zero, List.setIfInBounds_toArray, List.set_cons_zero, List.set_cons_succ])
            try (refine wpAnyH_take (i := 23) rfl (by kernel_rfl) (by decide +kernel) (by decide +kernel) (fun _ _ _ h => h) (Or.inl ⟨by kernel_rfl, by (intro w hSw; (try dsimp only at hSw); go_simp; try with_reducible rfl)⟩) (by assumption) ?_; try simp only [Act.put, List.getElem_toArray, List.getElem_cons_succ, List.getElem_cons_zero, List.setIfInBounds_toArray, List.set_cons_zero, List.set_cons_succ])
            try (refine wpAnyH_take (i := 24) rfl (by kernel_rfl) (by decide +kernel) (by decide +kernel) (fun _ _ _ h => h) (Or.inl ⟨by kernel_rfl, by (intro w hSw; (try dsimp only at hSw); go_simp; try with_reducible rfl)⟩) (by assumption) ?_; try simp only [Act.put, List.getElem_toArray, List.getElem_cons_succ, List.getElem_cons_zero, List.setIfInBounds_toArray, List.set_cons_zero, List.set_cons_succ])
            try (refine wpAnyH_take (i := 25) rfl (by kernel_rfl) (by decide +kernel) (by decide +kernel) (fun _ _ _ h => h) (Or.inl ⟨by kernel_rfl, by (intro w hSw; (try dsimp only at hSw); go_simp; try with_reducible rfl)⟩) (by assumption) ?_; try simp only [Act.put, List.getElem_toArray, List.getElem_cons_succ, List.getElem_cons_zero, List.setIfInBounds_toArray, List.set_cons_zero, List.set_cons_succ])
            try (refine wpAnyH_take (i := 26) rfl (by kernel_rfl) (by decide +kernel) (by decide +kernel) (fun _ _ _ h => h) (Or.inl ⟨by kernel_rfl, by (intro w hSw; (try dsimp only at hSw); go_simp; try with_reducible rfl)⟩) (by assumption) ?_; try simp only [Act.put, List.getElem_toArray, List.getElem_cons_succ, List.getElem_cons_zero, List.setIfInBounds_toArray, List.set_cons_zero, List.set_cons_succ])
            try (refine wpAnyH_take (i := 27) rfl (by kernel_rfl) (by decide +kernel) (by decide +kernel) (fun _ _ _ h => h) (Or.inl ⟨by kernel_rfl, by (intro w hSw; (try dsimp only at hSw); go_simp; try with_reducible rfl)⟩) (by assumption) ?_; try simp only [Act.put, List.getElem_toArray, List.getElem_cons_succ, List.getElem_cons_zero, List.setIfInBounds_toArray, List.set_cons_zero, List.set_cons_succ])
            try (refine wpAnyH_take (i := 28) rfl (by kernel_rfl) (by decide +kernel) (by decide +kernel) (fun _ _ _ h => h) (Or.inl ⟨by kernel_rfl, by (intro w hSw; (try dsimp only at hSw); go_simp; try with_reducible rfl)⟩) (by assumption) ?_; try simp only [Act.put, List.getElem_toArray, List.getElem_cons_succ, List.getElem_cons_zero, List.setIfInBounds_toArray, List.set_cons_zero, List.set_cons_succ])
            try (refine wpAnyH_take (i := 29) rfl (by kernel_rfl) (by decide +kernel) (by decide +kernel) (fun _ _ _ h => h) (Or.inl ⟨by kernel_rfl, by (intro w hSw; (try dsimp only at hSw); go_simp; try with_reducible rfl)⟩) (by assumption) ?_; try simp only [Act.put, List.getElem_toArray, List.getElem_cons_succ, List.getElem_cons_zero, List.setIfInBounds_toArray, List.set_cons_zero, List.set_cons_succ])
            refine wpAnyH_ready (rs := [30]) (by decide +kernel) (by simp) ?_
            refine AllReadyH.cons rfl (fun K hK => ?_) AllReadyH.nil
            (go_simp; (go_at_call 46; ((with_reducible refine (cA.out _ (by exact (by assumption : _ ∧ _).1)).mono ?_); rintro e w' ⟨rfl, rfl⟩)))
            try go_simp
            refine hK.out _ _ (by first | assumption | exact ⟨hsd, c1⟩ | (go_split_ands; exact ⟨Wk.below (by assumption) (by assumption), cell_then (by assumption) (by assumption)⟩)) (fun hHeld => ?_)
            clear hK K
            try simp only [Act.put, List.getElem_toArray, List.getElem_cons_succ, List.getElem_cons_zero, List.setIfInBounds_toArray, List.set_cons_zero, List.set_cons_succ]
            try (refine wpAnyH_take (i := 31) rfl (by kernel_rfl) (by decide +kernel) (by decide +kernel) (fun _ _ _ h => h) (Or.inl ⟨by kernel_rfl, by (intro w hSw; (try dsimp only at hSw); go_simp; try with_reducible rfl)⟩) (by assumption) ?_; try simp only [Act.put, List.getElem_toArray, List.getElem_cons_succ, List.getElem_cons_zero, List.setIfInBounds_toArray, List.set_cons_zero, List.set_cons_succ])
            try (refine wpAnyH_take (i := 32) rfl (by kernel_rfl) (by decide +kernel) (by decide +kernel) (fun _ _ _ h => h) (Or.inl ⟨by kernel_rfl, by (intro w hSw; (try dsimp only at hSw); go_simp; try with_reducible rfl)⟩) (by assumption) ?_; try simp only [Act.put, List.getElem_toArray, List.getElem_cons_succ, List.getElem_cons_zero, List.setIfInBounds_toArray, List.set_cons_zero, List.set_cons_succ])
            try (refine wpAnyH_take (i := 33) rfl (by kernel_rfl) (by decide +kernel) (by decide +kernel) (fun _ _ _ h => h) (Or.inl ⟨by kernel_rfl, by (intro w hSw; (try dsimp only at hSw); go_simp; try with_reducible rfl)⟩) (by assumption) ?_; try simp only [Act.put, List.getElem_toArray, List.getElem_cons_succ, List.getElem_cons_zero, List.setIfInBounds_toArray, List.set_cons_zero, List.set_cons_succ])
            try (refine wpAnyH_take (i := 34) rfl (by kernel_rfl) (by decide +kernel) (by decide +kernel) (fun _ _ _ h => h) (Or.inl ⟨by kernel_rfl, by (intro w hSw; (try dsimp only at hSw); go_simp; try with_reducible rfl)⟩) (by assumption) ?_; try simp only [Act.put, List.getElem_toArray, List.getElem_cons_succ, List.getElem_cons_zero, List.setIfInBounds_toArray, List.set_cons_zero, List.set_cons_succ])
            refine wpAnyH_done (by kernel_rfl) ?_ _
            have hE := hkk.out _ ((by assumption : Wk w wc _ p q H Hx Z2 Z2 ∧ _).1)
            clear cL cR cA hkk c1
            go_wp2_with fail
            go_roundw
            case rel => exact hE
            case measure => simp [RowKit.intOf]; omega
    · have hb := hR.out.out
      have ct := told_any wr
      have hke : decide ((k : Int) < (l : Int)) = true ∧ ¬ ((k : Int) < 60) ∨ ¬ ((k : Int) < (l : Int)) := by
        by_cases e : k < l
        · exact .inl ⟨by simpa using e, by omega⟩
        · exact .inr (by omega)
      clear hR hZ hcells hk
      rcases hke with ⟨e1, e2⟩ | e2
      · have e1 : (k : Int) < (l : Int) := by simpa using e1
        go_wp2_with fail
        with_reducible refine Calls.mono ct ?_
        rintro e w5 ⟨rfl, hb5⟩
        have hb := hb.trans (hb5.mono hb.size)
        clear ct hb5
        go_wp2_with fail
        go_ret
        exact ⟨rfl, hb⟩
      · go_wp2_with fail
        with_reducible refine Calls.mono ct ?_
        rintro e w5 ⟨rfl, hb5⟩
        have hb := hb.trans (hb5.mono hb.size)
        clear ct hb5
        go_wp2_with fail
        go_ret
        exact ⟨rfl, hb⟩

set_option maxRecDepth 100000 in
theorem lifted (os : Os) (started : os.Started) (H : Type) (enc : TypeId × Value → H) :
    ReturnsInHanded {} Try.checked os 6 .any (Rows.waitPlaysSpec.pre6 enc Try.prog Try.f6 Rows.waitPlaysRow.domain false) (Rows.waitPlaysSpec.post enc Try.prog Try.f6 false true false false) := by
  refine returnsInHanded_of_change (C := Try.checked) own started (by kernel_rfl) Try.func6
    (ChangeSpec.witness6 (enc := enc) (C := Try.checked) false ⟨#[], #[.slice none 0 0], []⟩ 8 (by kernel_rfl) (by kernel_rfl) (by kernel_rfl) (by kernel_rfl)) ?_
  intro W base args ds gs before hval0 hW hcnd _
  have hval : ∀ (j : Nat) t v, Try.f6.params[j]? = some t → args[j]? = some v → Value.okWide Try.prog W .any base t v := hval0
  have hW' := hW
  obtain ⟨p, q, hA0, hV, rfl, hfz, hnd⟩ := hW
  have hA : DataW.TrodAll enc Try.prog W 0 (fun _ => true) true Try.f6.params.toList args.toList ds p := hA0
  rw [Try.params6] at hA hval
  obtain ⟨v0, vs0, d0, ds0, p0, q0, hargs, rfl, rfl, h0, r0⟩ := trodAll_cons hA
  obtain ⟨rfl, rfl, rfl⟩ := trodAll_nil r0
  obtain rfl : args = #[v0] := by cases args; simp_all
  obtain ⟨rfl, rfl⟩ := trodVars_none hV
  obtain ⟨zb0, i0⟩ := op14_arg (hval 0 59 v0 rfl rfl) h0
  clear hA0 hval0
  simp only [List.append_nil] at hW'
  have lt0 : ∀ x ∈ p0, x.block < W.heap.size := fun x hx => by have := hW'.lt x (by simp [hx]); simpa using this
  refine (walk v0 zb0 W i0).mono fun e W' ⟨he, hg⟩ => ?_
  subst he
  exact ⟨_, rfl, post_of_kept (pa := _) (pv := []) hW' (fun _ _ _ => (trodAll_cons_mk (shut_bool Try.underlying4 _) trodAll_mk0)) (trodAll_cons_mk (Below.trod laidOut (by kernel_rfl) (of_decide_eq_true (by kernel_rfl)) h0 hg lt0) trodAll_mk0) (fun _ _ => rfl) (by simp) hg⟩

theorem over : Rows.waitPlaysRow.holds Try.pinned (OpenSpec.ofChange Rows.waitPlaysSpec) :=
  OpenClaim.holds_of_wide 6 Try.f6 rfl rfl rfl rfl rfl rfl rfl ⟨rfl, rfl, rfl, rfl, rfl⟩ rfl rfl rfl rfl rfl (by kernel_rfl) Try.func6 (by kernel_rfl)
    (of_decide_eq_true (by kernel_rfl)) (by unfold Func.isWrapper; first | (rw [if_pos (by decide +kernel)]; kernel_rfl) | (rw [if_neg (by decide +kernel)]; exact ⟨rfl, rfl⟩))
    (fun os started H enc _ => lifted os started H enc)

theorem proved : Rows.WaitPlaysSaid :=
  over
#print axioms proved
end Go.Proofs.Ytmngaedcckjfoab.waitPlays
