/- For any list of operations the statement BufferPlays answers true and leaves it as it was: two buffers go as the document says, halving into one another. No condition. -/
import Derived.Test.YtclldajbibhcbaaHome
import Derived.Test.YtclldajbibhcbaaBufBoth
import Derived.Test.YtclldajbibhcbaaOp17
import Derived.WalkKit
import Derived.ProofKit
import Derived.OpenShut
import Derived.Deep.RegionHeld3
import Derived.Deep.RegionWith
import Derived.Deep.Cut
import Derived.Deep.CutBlock
import Derived.Deep.CutRange
import Derived.Deep.LoopGhost
import Derived.Deep.DeepCutAuto
import Derived.RegionTactic
import Derived.StillTailTactics
namespace Go.Proofs.Ytclldajbibhcbaa.bufferPlays
open Go.ChangeShapes Go.WideShapes Go.ChangeAt Go.WideElems Go.RowKit Go.Lib Fx Ho Bb Rw Qu Bu
set_option linter.unusedVariables false

theorem own : ownKnob Try.prog.godebug = none := by kernel_rfl

theorem trem (x : Int) : -7 < x.tmod 7 ∧ x.tmod 7 < 7 := by
  rw [Int.tmod_eq_emod]; split <;> omega
set_option maxRecDepth 100000 in
set_option maxHeartbeats 4000000 in
theorem walk (v0 : Value) (zb0 : List _) (w : World) (h0 : Op17 w v0 zb0) :
    Calls Try.prog 9 #[v0] w fun e w' => e = .returned (.bool true) ∧ Below w.heap.size w w' := by
  obtain ⟨sp, cap, rfl, hm, hc⟩ := h0
  obtain ⟨l, hl⟩ : ∃ l, zb0.length = l := ⟨_, rfl⟩
  rw [hl] at hm hc ⊢
  have hcells : Hid (∀ wr, Below w.heap.size w wr → ∀ i, i < l → ∃ b off K G, sp = some ⟨b, off, none⟩ ∧ wr.cell? ⟨b, off + i * 2, none⟩ = some (.int .i64 K) ∧ wr.cell? ⟨b, off + i * 2 + 1, none⟩ = some (.int .i64 G)) := Lib.hid fun wr hb i hi => by
    obtain ⟨b, off, e, _, d0, d1⟩ := hc i hi
    have t : ∀ {j : Nat} {v : Value}, w.cell? ⟨b, off + (i * 2 + j), none⟩ = some v → wr.cell? ⟨b, off + i * 2 + j, none⟩ = some v := fun {j v} h => by have := cell_then hb h; rwa [← Nat.add_assoc] at this
    exact ⟨b, off, _, _, e, cell_then hb d0, t d1⟩
  clear hc hl
  have cn := fun W => Bu.new_any W
  obtain ⟨R0, hR0⟩ : ∃ R0 : Array Value, #[.slice none 0 0] = R0 := ⟨_, rfl⟩
  have h0 : Try.prog.built 86 [] = some R0 := by rw [← hR0]; kernel_rfl
  go_enter Try.func9, Try.ntmps9
  go_wp2_with fail
  with_reducible refine Calls.mono (cn w) ?_
  rintro e w1 ⟨rfl, hb1, hq1⟩
  go_wp2_with fail
  with_reducible refine Calls.mono (cn w1) ?_
  rintro e w2 ⟨rfl, hb2, hq2⟩
  clear cn
  have hW := Lib.hid (new4 hb1 hq1 hb2 hq2)
  rw [hR0] at hW
  obtain ⟨p0, hp0⟩ : ∃ p0, w.heap.size = p0 := ⟨_, rfl⟩
  obtain ⟨q0, hq0⟩ : ∃ q0, w1.heap.size = q0 := ⟨_, rfl⟩
  obtain ⟨x0, hx0⟩ : ∃ x0, w2.heap.size = x0 := ⟨_, rfl⟩
  rw [hp0, hq0, hx0] at hW
  rw [hp0, hq0]
  replace hp0 := Lib.hid hp0
  clear hb1 hq1 hb2 hq2 hR0 hq0
  replace hx0 := Lib.hid hx0
  go_wp2_with (refine wpList_built rfl 86 #[] rfl R0 (by simpa using h0) ?_)
  rw [hx0.out]
  generalize (w2.alloc (.cells R0 86)).alloc (.cells R0 86) = w3 at *
  clear h0 hx0
  obtain ⟨N, hN⟩ : ∃ N, x0 + 2 = N := ⟨_, rfl⟩
  rw [hN] at hW
  clear hN
  go_loopw [3, 4, 5, 6, 7] (fun va vb vx vy vi wr => ∃ (k p q x y : Nat) (A B : List Int), va = .pointer (some ⟨p, 0, none⟩) ∧ vb = .pointer (some ⟨q, 0, none⟩) ∧ vx = .pointer (some ⟨x, 0, none⟩) ∧ vy = .pointer (some ⟨y, 0, none⟩) ∧ vi = .int .i64 k ∧ k ≤ l ∧ k ≤ 60 ∧ Hid (Rk N w wr p q x y A B A B)) (fun _ _ _ _ vi _ => (60 - (RowKit.intOf vi).toNat))
  case atStart => exact ⟨0, p0, q0, x0, x0 + 1, [], [], rfl, rfl, rfl, rfl, rfl, by omega, by omega, hW⟩
  case round =>
    clear hW
    obtain ⟨k, p, q, x, y, A, B, rfl, rfl, rfl, rfl, rfl, kl, k60, hR⟩ := hrel
    by_cases hk : k < l ∧ k < 60
    · obtain ⟨hk1, hk2⟩ := hk
      have i2 : (k : Int) < (l : Int) := by omega
      have i3 : (k : Int) < 60 := by omega
      have i0 : (0 : Int) ≤ (k : Int) := by omega
      obtain ⟨b, off, K, G, rfl, d0, d1⟩ := hcells.out wr hR.out.bel k hk1
      obtain ⟨z, hz⟩ : ∃ z, wr.heap.size = z := ⟨_, rfl⟩
      have hbx := below_alloc (Below.refl _ wr) (.cells #[.int .i64 K, .int .i64 G] 88)
      have hx : Hid ((wr.alloc (.cells #[.int .i64 K, .int .i64 G] 88)).heap[z]? = some (.cells #[.int .i64 K, .int .i64 G] 88 (0, 0))) := Lib.hid (by rw [← hz]; exact heap_alloc_new _ _)
      have hR2 : Hid (Rk N w (wr.alloc (.cells #[.int .i64 K, .int .i64 G] 88)) p q x y A B A B) := Lib.hid (hR.out.below hbx)
      have hNz : Hid (N ≤ z) := Lib.hid (by rw [← hz]; exact hR.out.nn)
      clear hR hbx
      obtain ⟨yk, hy⟩ : ∃ yk, K.tmod 7 = yk := ⟨_, rfl⟩
      have hy2 := trem K
      have y1 : -7 < yk := by omega
      have y2 : yk < 7 := by omega
      clear hy2
      obtain ⟨t, ht⟩ : ∃ t, (yk + 7) % 7 = t := ⟨_, rfl⟩
      have d9 := cell_of hx.out (j := 0) rfl
      go_upto_block 2 with fail
      generalize wr.alloc (.cells #[.int .i64 K, .int .i64 G] 88) = w3 at *
      go_cut [3, 4, 5, 6, 9, 10, 11, 12, 13, 14] from 27 to 136 (fun va vb vx vy vo s10 s11 s12 s13 s14 wx => ∃ (p q x y : Nat) (A B : List Int), va = .pointer (some ⟨p, 0, none⟩) ∧ vb = .pointer (some ⟨q, 0, none⟩) ∧ vx = .pointer (some ⟨x, 0, none⟩) ∧ vy = .pointer (some ⟨y, 0, none⟩) ∧ vo = .bool true ∧ Hid (Rk N w wx p q x y A B A B))
      case first =>
        have hsA := hR2.out.a.small
        have hsB := hR2.out.b.small
        replace hsA := Lib.hid hsA
        replace hsB := Lib.hid hsB
        have c1 := cell_of hx.out (j := 1) rfl
        have hS : Hid (∀ W', Kn N w3 W' → W'.cell? ⟨z, 1, none⟩ = some (.int .i64 G)) := Lib.hid fun W' hk => cell_of (hk.block hNz.out hx.out) rfl
        rcases (show t = 0 ∨ t = 1 ∨ t = 2 ∨ t = 3 ∨ t = 4 ∨ t = 5 ∨ t = 6 by omega) with rfl | rfl | rfl | rfl | rfl | rfl | rfl
        · skip
          obtain ⟨b0, hb0⟩ : ∃ b0, decide (A.length < 32) = b0 := ⟨_, rfl⟩
          have hbb : (b0 == b0) = true := by cases b0 <;> rfl
          have hP1 : Hid (∀ V, Below w3.heap.size w3 V → Calls Try.prog 67 #[.pointer (some ⟨p, 0, none⟩), .int .i64 G] V fun e wz => e = .returned (.bool b0) ∧ (wz.cell? ⟨z, 1, none⟩ = some (.int .i64 G)) ∧ Hid (∀ V', Below wz.heap.size wz V' → Calls Try.prog 68 #[.pointer (some ⟨x, 0, none⟩), .int .i64 G] V' fun e wy => e = .returned (.bool b0) ∧ (wy.cell? ⟨z, 1, none⟩ = some (.int .i64 G)) ∧ Hid (∃ A B, Rk N w wy p q x y A B A B))) := Lib.hid fun V hb => (b_put (hR2.out.below hb) G).mono fun e wz ⟨he, hq, hk⟩ => ⟨by rw [he, hb0], hS.out wz ((kn_below hb).trans hk), Lib.hid fun V' hb' => (b_rput (hq.below hb') G).mono fun e wy ⟨he2, hq2, hk2⟩ => ⟨by rw [he2, hb0], hS.out wy ((((kn_below hb).trans hk).trans (kn_below hb')).trans hk2), Lib.hid ⟨_, _, hq2⟩⟩⟩
          clear hR2 hx hcells hS hsA hsB d0 d1 hNz hb0
          have hbd : Below w3.heap.size w3 w3.drew := (Below.refl _ _).drew
          go_wp2_with fail
          go_region_held3 (fun W' => W'.cell? ⟨z, 1, none⟩ = some (.int .i64 G)) (first | exact c1 | go_keep | assumption | exact cell_then (by assumption) (by assumption)) (first | (go_at_call 68; ((with_reducible refine (hP2.out _ (by repeat (first | assumption | exact Below.refl _ _ | refine below_drewN ?_ _ | refine below_alloc ?_ _ | refine below_then ?_ (by assumption)))).mono ?_); rintro e wy ⟨rfl, hky, hEnd⟩)) | (go_at_call 67; ((with_reducible refine (hP1.out _ (by repeat (first | assumption | exact Below.refl _ _ | refine below_drewN ?_ _ | refine below_alloc ?_ _ | refine below_then ?_ (by assumption)))).mono ?_); rintro e wz ⟨rfl, hkz, hP2⟩)))
          all_goals
            obtain ⟨A', B', hE⟩ := hEnd.out
            replace hE := Lib.hid hE
            go_wp2_with fail
            go_meet
            exact ⟨p, q, x, y, A', B', rfl, rfl, rfl, rfl, rfl, hE⟩
        · skip
          obtain ⟨b0, hb0⟩ : ∃ b0, decide (A.length < 32) = b0 := ⟨_, rfl⟩
          have hbb : (b0 == b0) = true := by cases b0 <;> rfl
          have hP1 : Hid (∀ V, Below w3.heap.size w3 V → Calls Try.prog 67 #[.pointer (some ⟨p, 0, none⟩), .int .i64 G] V fun e wz => e = .returned (.bool b0) ∧ (wz.cell? ⟨z, 1, none⟩ = some (.int .i64 G)) ∧ Hid (∀ V', Below wz.heap.size wz V' → Calls Try.prog 68 #[.pointer (some ⟨x, 0, none⟩), .int .i64 G] V' fun e wy => e = .returned (.bool b0) ∧ (wy.cell? ⟨z, 1, none⟩ = some (.int .i64 G)) ∧ Hid (∃ A B, Rk N w wy p q x y A B A B))) := Lib.hid fun V hb => (b_put (hR2.out.below hb) G).mono fun e wz ⟨he, hq, hk⟩ => ⟨by rw [he, hb0], hS.out wz ((kn_below hb).trans hk), Lib.hid fun V' hb' => (b_rput (hq.below hb') G).mono fun e wy ⟨he2, hq2, hk2⟩ => ⟨by rw [he2, hb0], hS.out wy ((((kn_below hb).trans hk).trans (kn_below hb')).trans hk2), Lib.hid ⟨_, _, hq2⟩⟩⟩
          clear hR2 hx hcells hS hsA hsB d0 d1 hNz hb0
          have hbd : Below w3.heap.size w3 w3.drew := (Below.refl _ _).drew
          go_wp2_with fail
          go_region_held3 (fun W' => W'.cell? ⟨z, 1, none⟩ = some (.int .i64 G)) (first | exact c1 | go_keep | assumption | exact cell_then (by assumption) (by assumption)) (first | (go_at_call 68; ((with_reducible refine (hP2.out _ (by repeat (first | assumption | exact Below.refl _ _ | refine below_drewN ?_ _ | refine below_alloc ?_ _ | refine below_then ?_ (by assumption)))).mono ?_); rintro e wy ⟨rfl, hky, hEnd⟩)) | (go_at_call 67; ((with_reducible refine (hP1.out _ (by repeat (first | assumption | exact Below.refl _ _ | refine below_drewN ?_ _ | refine below_alloc ?_ _ | refine below_then ?_ (by assumption)))).mono ?_); rintro e wz ⟨rfl, hkz, hP2⟩)))
          all_goals
            obtain ⟨A', B', hE⟩ := hEnd.out
            replace hE := Lib.hid hE
            go_wp2_with fail
            go_meet
            exact ⟨p, q, x, y, A', B', rfl, rfl, rfl, rfl, rfl, hE⟩
        · skip
          obtain ⟨b0, hb0⟩ : ∃ b0, decide (A.length < 32) = b0 := ⟨_, rfl⟩
          have hbb : (b0 == b0) = true := by cases b0 <;> rfl
          have hP1 : Hid (∀ V, Below w3.heap.size w3 V → Calls Try.prog 67 #[.pointer (some ⟨p, 0, none⟩), .int .i64 G] V fun e wz => e = .returned (.bool b0) ∧ (wz.cell? ⟨z, 1, none⟩ = some (.int .i64 G)) ∧ Hid (∀ V', Below wz.heap.size wz V' → Calls Try.prog 68 #[.pointer (some ⟨x, 0, none⟩), .int .i64 G] V' fun e wy => e = .returned (.bool b0) ∧ (wy.cell? ⟨z, 1, none⟩ = some (.int .i64 G)) ∧ Hid (∃ A B, Rk N w wy p q x y A B A B))) := Lib.hid fun V hb => (b_put (hR2.out.below hb) G).mono fun e wz ⟨he, hq, hk⟩ => ⟨by rw [he, hb0], hS.out wz ((kn_below hb).trans hk), Lib.hid fun V' hb' => (b_rput (hq.below hb') G).mono fun e wy ⟨he2, hq2, hk2⟩ => ⟨by rw [he2, hb0], hS.out wy ((((kn_below hb).trans hk).trans (kn_below hb')).trans hk2), Lib.hid ⟨_, _, hq2⟩⟩⟩
          clear hR2 hx hcells hS hsA hsB d0 d1 hNz hb0
          have hbd : Below w3.heap.size w3 w3.drew := (Below.refl _ _).drew
          go_wp2_with fail
          go_region_held3 (fun W' => W'.cell? ⟨z, 1, none⟩ = some (.int .i64 G)) (first | exact c1 | go_keep | assumption | exact cell_then (by assumption) (by assumption)) (first | (go_at_call 68; ((with_reducible refine (hP2.out _ (by repeat (first | assumption | exact Below.refl _ _ | refine below_drewN ?_ _ | refine below_alloc ?_ _ | refine below_then ?_ (by assumption)))).mono ?_); rintro e wy ⟨rfl, hky, hEnd⟩)) | (go_at_call 67; ((with_reducible refine (hP1.out _ (by repeat (first | assumption | exact Below.refl _ _ | refine below_drewN ?_ _ | refine below_alloc ?_ _ | refine below_then ?_ (by assumption)))).mono ?_); rintro e wz ⟨rfl, hkz, hP2⟩)))
          all_goals
            obtain ⟨A', B', hE⟩ := hEnd.out
            replace hE := Lib.hid hE
            go_wp2_with fail
            go_meet
            exact ⟨p, q, x, y, A', B', rfl, rfl, rfl, rfl, rfl, hE⟩
        · skip
          have cG := b_get hR2.out
          obtain ⟨g0, hg0⟩ : ∃ g0, (bGot A).1 = g0 := ⟨_, rfl⟩
          obtain ⟨b0, hb0⟩ : ∃ b0, (bGot A).2 = b0 := ⟨_, rfl⟩
          have hbb : (b0 == b0) = true := by cases b0 <;> rfl
          rw [hg0, hb0] at cG
          have cX : Hid (∀ W', Rk N w W' p q x y (bGet A) B A B → Calls Try.prog 70 #[.pointer (some ⟨x, 0, none⟩)] W' fun e W2 => e = .returned (.tuple #[.int .i64 g0, .bool b0]) ∧ Hid (∃ A B, Rk N w W2 p q x y A B A B)) := Lib.hid fun W' h => (b_rget h hsA.out).mono fun e W2 ⟨he, h2, _⟩ => ⟨by rw [he, hg0, hb0], Lib.hid ⟨_, _, h2⟩⟩
          clear hR2 hx hcells hS hsA hsB c1 d0 d1 hNz hg0 hb0
          go_wp2_with fail
          with_reducible refine Calls.mono (cG) ?_
          rintro e w4 ⟨rfl, h4, _⟩
          have cX4 := cX.out w4 h4
          clear h4 cX cG
          go_wp2_with fail
          with_reducible refine Calls.mono (cX4) ?_
          rintro e w5 ⟨rfl, h5⟩
          obtain ⟨A', B', hE⟩ := h5.out
          replace hE := Lib.hid hE
          clear cX4 h5
          go_wp2_with fail
          go_meet
          exact ⟨p, q, x, y, A', B', rfl, rfl, rfl, rfl, rfl, hE⟩
        · skip
          have cG := b_half hR2.out
          obtain ⟨n0, hn0⟩ : ∃ n0, hN A B = n0 := ⟨_, rfl⟩
          rw [hn0] at cG
          have cX : Hid (∀ W', Rk N w W' p q x y (hA A B) (hB A B) A B → Calls Try.prog 72 #[.pointer (some ⟨x, 0, none⟩), .pointer (some ⟨y, 0, none⟩)] W' fun e W2 => e = .returned (.int .i64 (n0 : Nat)) ∧ Hid (∃ A B, Rk N w W2 p q x y A B A B)) := Lib.hid fun W' h => (b_rhalf h hsA.out hsB.out).mono fun e W2 ⟨he, h2, _⟩ => ⟨by rw [he, hn0], Lib.hid ⟨_, _, h2⟩⟩
          clear hR2 hx hcells hS hsA hsB c1 d0 d1 hNz hn0
          go_wp2_with fail
          with_reducible refine Calls.mono (cG) ?_
          rintro e w4 ⟨rfl, h4, _⟩
          have cX4 := cX.out w4 h4
          clear h4 cX cG
          go_wp2_with fail
          with_reducible refine Calls.mono (cX4) ?_
          rintro e w5 ⟨rfl, h5⟩
          obtain ⟨A', B', hE⟩ := h5.out
          replace hE := Lib.hid hE
          clear cX4 h5
          go_wp2_with fail
          go_meet
          exact ⟨p, q, x, y, A', B', rfl, rfl, rfl, rfl, rfl, hE⟩
        · skip
          have hE := Lib.hid hR2.out.swap
          clear hR2 hx hcells hS hsA hsB c1 d0 d1 hNz
          go_wp2_with fail
          go_meet
          exact ⟨q, p, y, x, B, A, rfl, rfl, rfl, rfl, rfl, hE⟩
        · skip
          obtain ⟨U, hU⟩ : ∃ U : Int, IntKind.u64.wrap G = U := ⟨_, rfl⟩
          have U0 : 0 ≤ U := by rw [← hU, IntKind.wrap_u64]; omega
          obtain ⟨T, hT⟩ : ∃ T : Nat, U % 40 = (T : Int) := ⟨(U % 40).toNat, by omega⟩
          have T1 : T < 40 := by omega
          replace hU := hU
          clear hcells hS hsA hsB d0 d1 c1
          go_wp2_with fail
          rw [ht]
          clear ht
          go_loopw [9, 14] (fun vo vj wq => ∃ (j : Nat) (A : List Int), vo = .bool true ∧ vj = .int .i64 j ∧ j ≤ T ∧ Hid (Rk N w wq p q x y A B A B) ∧ Hid (wq.heap[z]? = some (.cells #[.int .i64 K, .int .i64 G] 88 (0, 0)))) (fun _ vj _ => (T - (RowKit.intOf vj).toNat))
          case atStart => exact ⟨0, A, rfl, rfl, by omega, hR2, hx⟩
          case round =>
            clear hR2 hx
            obtain ⟨j, A, rfl, rfl, jT, hR4, hx4⟩ := hrel
            have c1 := cell_of hx4.out (j := 1) rfl
            have j0 : (0 : Int) ≤ (j : Int) := by omega
            have j3 : (j : Int) ≤ 40 := by omega
            by_cases hj : j < T
            · have j2 : (j : Int) < (T : Int) := by omega
              have hsA := Lib.hid hR4.out.a.small
              have cP := b_put hR4.out ((j : Int) + 1)
              obtain ⟨b0, hb0⟩ : ∃ b0, decide (A.length < 32) = b0 := ⟨_, rfl⟩
              have hbb : (b0 == b0) = true := by cases b0 <;> rfl
              rw [hb0] at cP
              have cX : Hid (∀ W', Rk N w W' p q x y (bPut A ((j : Int) + 1)) B A B → Kn N wr W' → Calls Try.prog 68 #[.pointer (some ⟨x, 0, none⟩), .int .i64 ((j : Int) + 1)] W' fun e W2 => e = .returned (.bool b0) ∧ Hid (∃ A', Rk N w W2 p q x y A' B A' B) ∧ Hid (W2.heap[z]? = some (.cells #[.int .i64 K, .int .i64 G] 88 (0, 0)))) := Lib.hid fun W' h hk => (b_rput h ((j : Int) + 1)).mono fun e W2 ⟨he, h2, hk2⟩ => ⟨by rw [he, hb0], Lib.hid ⟨_, h2⟩, Lib.hid ((hk.trans hk2).block hNz.out hx4.out)⟩
              clear hR4 hx4 hsA hb0
              go_wp2_with fail
              with_reducible refine Calls.mono (cP) ?_
              rintro e w4 ⟨rfl, h4, k4⟩
              have cX4 := cX.out w4 h4 k4
              clear h4 k4 cX cP
              go_wp2_with fail
              with_reducible refine Calls.mono (cX4) ?_
              rintro e w5 ⟨rfl, h5, x6⟩
              obtain ⟨A', h6⟩ := h5.out
              replace h6 := Lib.hid h6
              clear cX4 h5 c1
              go_wp2_with fail
              go_roundw
              case rel => exact ⟨j + 1, _, rfl, by go_num, by omega, h6, x6⟩
              case measure => simp [RowKit.intOf]; omega
            · have j2 : ¬ (j : Int) < (T : Int) := by omega
              clear hx4
              go_wp2_with fail
              go_meet
              exact ⟨p, q, x, y, A, B, rfl, rfl, rfl, rfl, rfl, hR4⟩
      case rest =>
        clear hR2 hx hcells d0 d1 d9 hNz
        obtain ⟨p, q, x, y, A, B, rfl, rfl, rfl, rfl, rfl, hR3⟩ := hcut
        obtain ⟨v1, g1⟩ := hR3.out.c
        obtain ⟨v2, g2⟩ := hR3.out.d
        have e1 := g1.c0
        have e2 := g2.c0
        obtain ⟨s1, c1, rfl, _⟩ := g1.slice
        obtain ⟨s2, c2, rfl, _⟩ := g2.slice
        obtain ⟨n1, hn1⟩ : ∃ n, A.length = n := ⟨_, rfl⟩
        obtain ⟨n2, hn2⟩ : ∃ n, B.length = n := ⟨_, rfl⟩
        have k1 : Hid (∀ n, Calls Try.prog 73 #[.pointer (some ⟨p, 0, none⟩)] (wc.drewN n) (Ans (.int .i64 n1) (wc.drewN n))) := Lib.hid fun n => by rw [← hn1]; exact (b_len (hR3.out.below (below_drewN (Below.refl _ _) n))).mono fun _ _ ⟨he, hw⟩ => ⟨he, 0, hw.symm⟩
        have k2 : Hid (∀ n, Calls Try.prog 73 #[.pointer (some ⟨q, 0, none⟩)] (wc.drewN n) (Ans (.int .i64 n2) (wc.drewN n))) := Lib.hid fun n => by rw [← hn2]; exact (b_len (hR3.out.swap.below (below_drewN (Below.refl _ _) n))).mono fun _ _ ⟨he, hw⟩ => ⟨he, 0, hw.symm⟩
        have k5 : Hid (∀ n, Rk N w (wc.drewN n) p q x y A B A B) := Lib.hid fun n => hR3.out.below (below_drewN (Below.refl _ _) n)
        rw [hn1] at e1
        rw [hn2] at e2
        clear hR3 g1 g2 hn1 hn2
        go_wp2_with fail
        go_quiet ((first | (go_at_call 73; exact quiet_ans1 (k1.out _)) | (go_at_call 73; exact quiet_ans1 (k2.out _))))
        go_wp2_with fail
        go_roundw
        case rel => exact ⟨k + 1, p, q, x, y, A, B, rfl, rfl, rfl, rfl, by go_num, by omega, by omega, k5.out _⟩
        case measure => simp [RowKit.intOf]; omega
    · obtain ⟨vx, g1⟩ := hR.out.c
      obtain ⟨vy, g2⟩ := hR.out.d
      have hS : Hid (∀ W', Below wr.heap.size wr W' → (W'.cell? ⟨x, 0, none⟩ = some vx ∧ W'.cell? ⟨y, 0, none⟩ = some vy) ∧ Ints W' (fun k => N ≤ k) vx A ∧ Ints W' (fun k => N ≤ k) vy B ∧ Rk N w W' p q x y A B A B) := Lib.hid fun W' hb => ⟨⟨(g1.below hb).c0, (g2.below hb).c0⟩, (g1.below hb).row, (g2.below hb).row, hR.out.below hb⟩
      have c1 := g1.c0
      have c2 := g2.c0
      have hP1 : Hid (∀ V, Below wr.heap.size wr V → Calls Try.prog 74 #[] V fun e wz => e = .returned (.bool true) ∧ (wz.cell? ⟨x, 0, none⟩ = some vx ∧ wz.cell? ⟨y, 0, none⟩ = some vy) ∧ Hid (∀ V', Below wz.heap.size wz V' → Calls Try.prog 75 #[.pointer (some ⟨p, 0, none⟩)] V' fun e wy => ∃ r, e = .returned r ∧ (wy.cell? ⟨x, 0, none⟩ = some vx ∧ wy.cell? ⟨y, 0, none⟩ = some vy) ∧ Hid (∀ V2, Below wy.heap.size wy V2 → Calls Try.prog 16 #[r, vx] V2 fun e wx => e = .returned (.bool true) ∧ (wx.cell? ⟨x, 0, none⟩ = some vx ∧ wx.cell? ⟨y, 0, none⟩ = some vy) ∧ Hid (∀ V3, Below wx.heap.size wx V3 → Calls Try.prog 75 #[.pointer (some ⟨q, 0, none⟩)] V3 fun e wu => ∃ r2, e = .returned r2 ∧ (wu.cell? ⟨x, 0, none⟩ = some vx ∧ wu.cell? ⟨y, 0, none⟩ = some vy) ∧ Hid (∀ V4, Below wu.heap.size wu V4 → Calls Try.prog 16 #[r2, vy] V4 fun e wt => e = .returned (.bool true) ∧ (wt.cell? ⟨x, 0, none⟩ = some vx ∧ wt.cell? ⟨y, 0, none⟩ = some vy) ∧ Hid (Below w.heap.size w wt)))))) := Lib.hid fun V hb => (Bu.told_any V).mono fun e wz ⟨he, hz⟩ => by
        have b1 := hb.trans (hz.mono hb.size)
        obtain ⟨s1, _, _, r1⟩ := hS.out wz b1
        refine ⟨he, s1, Lib.hid fun V' hb' => ?_⟩
        have b2 := b1.trans (hb'.mono b1.size)
        refine (b_all (hS.out V' b2).2.2.2).mono fun e wy ⟨r, he, hy, hi⟩ => ?_
        have b3 := b2.trans (hy.mono b2.size)
        refine ⟨r, he, (hS.out wy b3).1, Lib.hid fun V2 hb2 => ?_⟩
        have b4 := b3.trans (hb2.mono b3.size)
        refine (ints_any (hi.below hb2) (hS.out V2 b4).2.1).mono fun e wx ha => ?_
        obtain ⟨ea, hba⟩ := ha.below
        have b5 := b4.trans (hba.mono b4.size)
        refine ⟨ea, (hS.out wx b5).1, Lib.hid fun V3 hb3 => ?_⟩
        have b6 := b5.trans (hb3.mono b5.size)
        refine (b_all (hS.out V3 b6).2.2.2.swap).mono fun e wu ⟨r2, he, hu, hi2⟩ => ?_
        have b7 := b6.trans (hu.mono b6.size)
        refine ⟨r2, he, (hS.out wu b7).1, Lib.hid fun V4 hb4 => ?_⟩
        have b8 := b7.trans (hb4.mono b7.size)
        refine (ints_any (hi2.below hb4) (hS.out V4 b8).2.2.1).mono fun e wt ha => ?_
        obtain ⟨ea, hba⟩ := ha.below
        have b9 := b8.trans (hba.mono b8.size)
        exact ⟨ea, (hS.out wt b9).1, Lib.hid (hS.out wt b9).2.2.2.bel⟩
      have hbd : Below wr.heap.size wr wr.drew := (Below.refl _ _).drew
      clear hcells hS hR g1 g2
      by_cases hkl : k < l
      · have i2 : (k : Int) < (l : Int) := by omega
        have i3 : ¬ (k : Int) < 60 := by omega
        go_wp2_with fail
        go_region_held3 (fun W' => W'.cell? ⟨x, 0, none⟩ = some vx ∧ W'.cell? ⟨y, 0, none⟩ = some vy) (first | exact ⟨c1, c2⟩ | go_keep | assumption | (go_split_ands; exact ⟨cell_then (by assumption) (by assumption), cell_then (by assumption) (by assumption)⟩)) (first | (go_at_call 16; ((with_reducible refine (hP5.out _ (by repeat (first | assumption | exact Below.refl _ _ | refine below_drewN ?_ _ | refine below_alloc ?_ _ | refine below_then ?_ (by assumption)))).mono ?_); rintro e wt ⟨rfl, hkt, hEnd⟩)) | (go_at_call 75; ((with_reducible refine (hP4.out _ (by repeat (first | assumption | exact Below.refl _ _ | refine below_drewN ?_ _ | refine below_alloc ?_ _ | refine below_then ?_ (by assumption)))).mono ?_); rintro e wu ⟨r2, rfl, hku, hP5⟩)) | (go_at_call 16; ((with_reducible refine (hP3.out _ (by repeat (first | assumption | exact Below.refl _ _ | refine below_drewN ?_ _ | refine below_alloc ?_ _ | refine below_then ?_ (by assumption)))).mono ?_); rintro e wx ⟨rfl, hkx, hP4⟩)) | (go_at_call 75; ((with_reducible refine (hP2.out _ (by repeat (first | assumption | exact Below.refl _ _ | refine below_drewN ?_ _ | refine below_alloc ?_ _ | refine below_then ?_ (by assumption)))).mono ?_); rintro e wy ⟨r, rfl, hky, hP3⟩)) | (go_at_call 74; ((with_reducible refine (hP1.out _ (by repeat (first | assumption | exact Below.refl _ _ | refine below_drewN ?_ _ | refine below_alloc ?_ _ | refine below_then ?_ (by assumption)))).mono ?_); rintro e wz ⟨rfl, hkz, hP2⟩)))
        all_goals
          go_wp2_with fail
          go_ret
          exact ⟨rfl, hEnd.out⟩
      · have i2 : ¬ (k : Int) < (l : Int) := by omega
        go_wp2_with fail
        go_region_held3 (fun W' => W'.cell? ⟨x, 0, none⟩ = some vx ∧ W'.cell? ⟨y, 0, none⟩ = some vy) (first | exact ⟨c1, c2⟩ | go_keep | assumption | (go_split_ands; exact ⟨cell_then (by assumption) (by assumption), cell_then (by assumption) (by assumption)⟩)) (first | (go_at_call 16; ((with_reducible refine (hP5.out _ (by repeat (first | assumption | exact Below.refl _ _ | refine below_drewN ?_ _ | refine below_alloc ?_ _ | refine below_then ?_ (by assumption)))).mono ?_); rintro e wt ⟨rfl, hkt, hEnd⟩)) | (go_at_call 75; ((with_reducible refine (hP4.out _ (by repeat (first | assumption | exact Below.refl _ _ | refine below_drewN ?_ _ | refine below_alloc ?_ _ | refine below_then ?_ (by assumption)))).mono ?_); rintro e wu ⟨r2, rfl, hku, hP5⟩)) | (go_at_call 16; ((with_reducible refine (hP3.out _ (by repeat (first | assumption | exact Below.refl _ _ | refine below_drewN ?_ _ | refine below_alloc ?_ _ | refine below_then ?_ (by assumption)))).mono ?_); rintro e wx ⟨rfl, hkx, hP4⟩)) | (go_at_call 75; ((with_reducible refine (hP2.out _ (by repeat (first | assumption | exact Below.refl _ _ | refine below_drewN ?_ _ | refine below_alloc ?_ _ | refine below_then ?_ (by assumption)))).mono ?_); rintro e wy ⟨r, rfl, hky, hP3⟩)) | (go_at_call 74; ((with_reducible refine (hP1.out _ (by repeat (first | assumption | exact Below.refl _ _ | refine below_drewN ?_ _ | refine below_alloc ?_ _ | refine below_then ?_ (by assumption)))).mono ?_); rintro e wz ⟨rfl, hkz, hP2⟩)))
        all_goals
          go_wp2_with fail
          go_ret
          exact ⟨rfl, hEnd.out⟩

set_option maxRecDepth 100000 in
theorem lifted (os : Os) (started : os.Started) (H : Type) (enc : TypeId × Value → H) :
    ReturnsInHanded {} Try.checked os 9 .any (Rows.bufferPlaysSpec.pre6 enc Try.prog Try.f9 Rows.bufferPlaysRow.domain false) (Rows.bufferPlaysSpec.post enc Try.prog Try.f9 false true false false) := by
  refine returnsInHanded_of_change (C := Try.checked) own started (by kernel_rfl) Try.func9
    (ChangeSpec.witness6 (enc := enc) (C := Try.checked) false ⟨#[], #[.slice none 0 0], []⟩ 8 (by kernel_rfl) (by kernel_rfl) (by kernel_rfl) (by kernel_rfl)) ?_
  intro W base args ds gs before hval0 hW hcnd _
  have hval : ∀ (j : Nat) t v, Try.f9.params[j]? = some t → args[j]? = some v → Value.okWide Try.prog W .any base t v := hval0
  have hW' := hW
  obtain ⟨p, q, hA0, hV, rfl, hfz, hnd⟩ := hW
  have hA : DataW.TrodAll enc Try.prog W 0 (fun _ => true) true Try.f9.params.toList args.toList ds p := hA0
  rw [Try.params9] at hA hval
  obtain ⟨v0, vs0, d0, ds0, p0, q0, hargs, rfl, rfl, h0, r0⟩ := trodAll_cons hA
  obtain ⟨rfl, rfl, rfl⟩ := trodAll_nil r0
  obtain rfl : args = #[v0] := by cases args; simp_all
  obtain ⟨rfl, rfl⟩ := trodVars_none hV
  obtain ⟨zb0, i0⟩ := op17_arg (hval 0 82 v0 rfl rfl) h0
  clear hA0 hval0
  simp only [List.append_nil] at hW'
  have lt0 : ∀ x ∈ p0, x.block < W.heap.size := fun x hx => by have := hW'.lt x (by simp [hx]); simpa using this
  refine (walk v0 zb0 W i0).mono fun e W' ⟨he, hg⟩ => ?_
  subst he
  exact ⟨_, rfl, post_of_kept (pa := _) (pv := []) hW' (fun _ _ _ => (trodAll_cons_mk (shut_bool Try.underlying4 _) trodAll_mk0)) (trodAll_cons_mk (Below.trod laidOut (by kernel_rfl) (of_decide_eq_true (by kernel_rfl)) h0 hg lt0) trodAll_mk0) (fun _ _ => rfl) (by simp) hg⟩

theorem over : Rows.bufferPlaysRow.holds Try.pinned (OpenSpec.ofChange Rows.bufferPlaysSpec) :=
  OpenClaim.holds_of_wide 9 Try.f9 rfl rfl rfl rfl rfl rfl rfl ⟨rfl, rfl, rfl, rfl, rfl⟩ rfl rfl rfl rfl rfl (by kernel_rfl) Try.func9 (by kernel_rfl)
    (of_decide_eq_true (by kernel_rfl)) (by unfold Func.isWrapper; first | (rw [if_pos (by decide +kernel)]; kernel_rfl) | (rw [if_neg (by decide +kernel)]; exact ⟨rfl, rfl⟩))
    (fun os started H enc _ => lifted os started H enc)

theorem proved : Rows.BufferPlaysSaid :=
  over
#print axioms proved
end Go.Proofs.Ytclldajbibhcbaa.bufferPlays
