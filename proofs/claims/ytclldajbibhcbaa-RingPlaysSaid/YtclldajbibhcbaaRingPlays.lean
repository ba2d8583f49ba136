/- For any list of operations the statement RingPlays answers true and leaves it as it was: two rows go as the document says, stealing from one another. No condition. -/
import Derived.Test.YtclldajbibhcbaaHome
import Derived.Test.YtclldajbibhcbaaRingBoth
import Derived.Test.YtclldajbibhcbaaOp10
import Derived.WalkKit
import Derived.ProofKit
import Derived.OpenShut
import Derived.Deep.RegionHeld3
import Derived.Deep.RegionWith
import Derived.Deep.Cut
import Derived.Deep.CutBlock
import Derived.Deep.CutRange
import Derived.Deep.LoopGhost
import Derived.Deep.DeepCutAuto
import Derived.RegionTactic
import Derived.StillTailTactics
namespace Go.Proofs.Ytclldajbibhcbaa.ringPlays
open Go.ChangeShapes Go.WideShapes Go.ChangeAt Go.WideElems Go.RowKit Go.Lib Fx Ho Rw Rr Ri Rw Rw Qu
set_option linter.unusedVariables false

theorem own : ownKnob Try.prog.godebug = none := by kernel_rfl

theorem trem (x : Int) : -8 < x.tmod 8 ∧ x.tmod 8 < 8 := by
  rw [Int.tmod_eq_emod]; split <;> omega
theorem keep_op {N : Nat} {W W' : World} {z : Nat} {o : Obj} (h : Kn N W W') (hz : N ≤ z) (ho : W.heap[z]? = some o) : W'.heap[z]? = some o := h.block hz ho
set_option maxRecDepth 100000 in
set_option maxHeartbeats 4000000 in
theorem walk (v0 : Value) (zb0 : List _) (w : World) (h0 : Op10 w v0 zb0) :
    Calls Try.prog 3 #[v0] w fun e w' => e = .returned (.bool true) ∧ Below w.heap.size w w' := by
  obtain ⟨sp, cap, rfl, hm, hc⟩ := h0
  obtain ⟨l, hl⟩ : ∃ l, zb0.length = l := ⟨_, rfl⟩
  rw [hl] at hm hc ⊢
  have hcells : Hid (∀ wr, Below w.heap.size w wr → ∀ i, i < l → ∃ b off K G nb, sp = some ⟨b, off, none⟩ ∧ wr.cell? ⟨b, off + i * 3, none⟩ = some (.int .i64 K) ∧ wr.cell? ⟨b, off + i * 3 + 1, none⟩ = some (.int .i64 G) ∧ wr.cell? ⟨b, off + i * 3 + 2, none⟩ = some (.bool nb)) := Lib.hid fun wr hb i hi => by
    obtain ⟨b, off, e, _, d0, d1, d2⟩ := hc i hi
    have t : ∀ {j : Nat} {v : Value}, w.cell? ⟨b, off + (i * 3 + j), none⟩ = some v → wr.cell? ⟨b, off + i * 3 + j, none⟩ = some v := fun {j v} h => by have := cell_then hb h; rwa [← Nat.add_assoc] at this
    exact ⟨b, off, _, _, _, e, cell_then hb d0, t d1, t d2⟩
  clear hc hl
  have cn := fun W => Ri.new_any W
  obtain ⟨R0, hR0⟩ : ∃ R0 : Array Value, #[.slice none 0 0, .slice none 0 0] = R0 := ⟨_, rfl⟩
  have h0 : Try.prog.built 28 [] = some R0 := by rw [← hR0]; kernel_rfl
  go_enter Try.func3, Try.ntmps3
  go_wp2_with fail
  with_reducible refine Calls.mono (cn w) ?_
  rintro e w1 ⟨rfl, hb1, hq1⟩
  go_wp2_with fail
  with_reducible refine Calls.mono (cn w1) ?_
  rintro e w2 ⟨rfl, hb2, hq2⟩
  clear cn
  have hW := Lib.hid (new4 hb1 hq1 hb2 hq2)
  rw [hR0] at hW
  obtain ⟨p0, hp0⟩ : ∃ p0, w.heap.size = p0 := ⟨_, rfl⟩
  obtain ⟨q0, hq0⟩ : ∃ q0, w1.heap.size = q0 := ⟨_, rfl⟩
  obtain ⟨x0, hx0⟩ : ∃ x0, w2.heap.size = x0 := ⟨_, rfl⟩
  rw [hp0, hq0, hx0] at hW
  rw [hp0, hq0]
  replace hp0 := Lib.hid hp0
  clear hb1 hq1 hb2 hq2 hR0 hq0
  replace hx0 := Lib.hid hx0
  go_wp2_with (refine wpList_built rfl 28 #[] rfl R0 (by simpa using h0) ?_)
  rw [hx0.out]
  generalize (w2.alloc (.cells R0 28)).alloc (.cells R0 28) = w3 at *
  clear h0 hx0
  obtain ⟨N, hN⟩ : ∃ N, x0 + 2 = N := ⟨_, rfl⟩
  rw [hN] at hW
  clear hN
  go_loopw [3, 4, 5, 6, 7] (fun va vb vx vy vi wr => ∃ (k p q x y : Nat) (A B : Pr), va = .pointer (some ⟨p, 0, none⟩) ∧ vb = .pointer (some ⟨q, 0, none⟩) ∧ vx = .pointer (some ⟨x, 0, none⟩) ∧ vy = .pointer (some ⟨y, 0, none⟩) ∧ vi = .int .i64 k ∧ k ≤ l ∧ k ≤ 60 ∧ Hid (Rb N w wr p q x y A B A B)) (fun _ _ _ _ vi _ => (60 - (RowKit.intOf vi).toNat))
  case atStart => exact ⟨0, p0, q0, x0, x0 + 1, (none, []), (none, []), rfl, rfl, rfl, rfl, rfl, by omega, by omega, hW⟩
  case round =>
    clear hW
    obtain ⟨k, p, q, x, y, A, B, rfl, rfl, rfl, rfl, rfl, kl, k60, hR⟩ := hrel
    by_cases hk : k < l ∧ k < 60
    · obtain ⟨hk1, hk2⟩ := hk
      have i2 : (k : Int) < (l : Int) := by omega
      have i3 : (k : Int) < 60 := by omega
      have i0 : (0 : Int) ≤ (k : Int) := by omega
      obtain ⟨b, off, K, G, nb, rfl, d0, d1, d2⟩ := hcells.out wr hR.out.bel k hk1
      obtain ⟨z, hz⟩ : ∃ z, wr.heap.size = z := ⟨_, rfl⟩
      have hbx := below_alloc (Below.refl _ wr) (.cells #[.int .i64 K, .int .i64 G, .bool nb] 30)
      have hx : Hid ((wr.alloc (.cells #[.int .i64 K, .int .i64 G, .bool nb] 30)).heap[z]? = some (.cells #[.int .i64 K, .int .i64 G, .bool nb] 30 (0, 0))) := Lib.hid (by rw [← hz]; exact heap_alloc_new _ _)
      have hR2 : Hid (Rb N w (wr.alloc (.cells #[.int .i64 K, .int .i64 G, .bool nb] 30)) p q x y A B A B) := Lib.hid (hR.out.below hbx)
      have hNz : Hid (N ≤ z) := Lib.hid (by rw [← hz]; exact hR.out.nn)
      clear hR hbx
      obtain ⟨yk, hy⟩ : ∃ yk, K.tmod 8 = yk := ⟨_, rfl⟩
      have hy2 := trem K
      have y1 : -8 < yk := by omega
      have y2 : yk < 8 := by omega
      clear hy2
      obtain ⟨t, ht⟩ : ∃ t, (yk + 8) % 8 = t := ⟨_, rfl⟩
      have d9 := cell_of hx.out (j := 0) rfl
      go_upto_block 2 with fail
      generalize wr.alloc (.cells #[.int .i64 K, .int .i64 G, .bool nb] 30) = w3 at *
      go_cut [3, 4, 5, 6, 9, 10, 11, 12, 13, 14] from 27 to 145 (fun va vb vx vy vo s10 s11 s12 s13 s14 wx => ∃ (p q x y : Nat) (A B : Pr), va = .pointer (some ⟨p, 0, none⟩) ∧ vb = .pointer (some ⟨q, 0, none⟩) ∧ vx = .pointer (some ⟨x, 0, none⟩) ∧ vy = .pointer (some ⟨y, 0, none⟩) ∧ vo = .bool true ∧ Hid (Rb N w wx p q x y A B A B))
      case first =>
        have hsA := hR2.out.a.small
        have hsB := hR2.out.b.small
        replace hsA := Lib.hid hsA
        replace hsB := Lib.hid hsB
        have c1 := cell_of hx.out (j := 1) rfl
        have c2 := cell_of hx.out (j := 2) rfl
        have hS : Hid (∀ W', Kn N w3 W' → W'.cell? ⟨z, 1, none⟩ = some (.int .i64 G) ∧ W'.cell? ⟨z, 2, none⟩ = some (.bool nb)) := Lib.hid fun W' hk => ⟨cell_of (hk.block hNz.out hx.out) rfl, cell_of (hk.block hNz.out hx.out) rfl⟩
        rcases (show t = 0 ∨ t = 1 ∨ t = 2 ∨ t = 3 ∨ t = 4 ∨ t = 5 ∨ t = 6 ∨ t = 7 by omega) with rfl | rfl | rfl | rfl | rfl | rfl | rfl | rfl
        · skip
          have hP1 : Hid (∀ V, Below w3.heap.size w3 V → Calls Try.prog 17 #[.pointer (some ⟨p, 0, none⟩), .int .i64 G, .bool nb] V fun e wz => ∃ r, e = .returned r ∧ (wz.cell? ⟨z, 1, none⟩ = some (.int .i64 G) ∧ wz.cell? ⟨z, 2, none⟩ = some (.bool nb)) ∧ Hid (∀ V', Below wz.heap.size wz V' → Calls Try.prog 18 #[.pointer (some ⟨x, 0, none⟩), .int .i64 G, .bool nb] V' fun e wy => ∃ r2, e = .returned r2 ∧ (wy.cell? ⟨z, 1, none⟩ = some (.int .i64 G) ∧ wy.cell? ⟨z, 2, none⟩ = some (.bool nb)) ∧ Hid (∀ V2, Below wy.heap.size wy V2 → Calls Try.prog 16 #[r, r2] V2 fun e wx => e = .returned (.bool true) ∧ Below V2.heap.size V2 wx ∧ Hid (∃ A B, Rb N w wx p q x y A B A B)))) := Lib.hid fun V hb => (b_put (hR2.out.below hb) G nb).mono fun e wz ⟨r, he, hq, hk, hi⟩ => ⟨r, he, hS.out wz ((kn_below hb).trans hk), Lib.hid fun V' hb' => (b_rput (hq.below hb') hsA.out G nb).mono fun e wy ⟨r2, he2, hq2, hk2, hi2⟩ => ⟨r2, he2, hS.out wy ((((kn_below hb).trans hk).trans (kn_below hb')).trans hk2), Lib.hid fun V2 hb2 => (ints_any ((hk2.ints (hi.below hb')).below hb2) (hi2.below hb2)).mono fun e wx ha => by
            obtain ⟨ea, hba⟩ := ha.below
            exact ⟨ea, hba, Lib.hid ⟨_, _, (hq2.below hb2).below hba⟩⟩⟩⟩
          clear hR2 hx hcells hS hsA hsB d0 d1 d2 hNz
          have hbd : Below w3.heap.size w3 w3.drew := (Below.refl _ _).drew
          go_wp2_with fail
          go_region_held3 (fun W' => W'.cell? ⟨z, 1, none⟩ = some (.int .i64 G) ∧ W'.cell? ⟨z, 2, none⟩ = some (.bool nb)) (first | exact ⟨c1, c2⟩ | go_keep | assumption | (go_split_ands; exact ⟨cell_then (by assumption) (by assumption), cell_then (by assumption) (by assumption)⟩)) (first | (go_at_call 16; ((with_reducible refine (hP3.out _ (by repeat (first | assumption | exact Below.refl _ _ | refine below_drewN ?_ _ | refine below_alloc ?_ _ | refine below_then ?_ (by assumption)))).mono ?_); rintro e wx ⟨rfl, hbx, hEnd⟩)) | (go_at_call 18; ((with_reducible refine (hP2.out _ (by repeat (first | assumption | exact Below.refl _ _ | refine below_drewN ?_ _ | refine below_alloc ?_ _ | refine below_then ?_ (by assumption)))).mono ?_); rintro e wy ⟨r2, rfl, hky, hP3⟩)) | (go_at_call 17; ((with_reducible refine (hP1.out _ (by repeat (first | assumption | exact Below.refl _ _ | refine below_drewN ?_ _ | refine below_alloc ?_ _ | refine below_then ?_ (by assumption)))).mono ?_); rintro e wz ⟨r, rfl, hkz, hP2⟩)))
          all_goals
            obtain ⟨A', B', hE⟩ := hEnd.out
            replace hE := Lib.hid hE
            go_wp2_with fail
            go_meet
            exact ⟨p, q, x, y, A', B', rfl, rfl, rfl, rfl, rfl, hE⟩
        · skip
          have hP1 : Hid (∀ V, Below w3.heap.size w3 V → Calls Try.prog 17 #[.pointer (some ⟨p, 0, none⟩), .int .i64 G, .bool nb] V fun e wz => ∃ r, e = .returned r ∧ (wz.cell? ⟨z, 1, none⟩ = some (.int .i64 G) ∧ wz.cell? ⟨z, 2, none⟩ = some (.bool nb)) ∧ Hid (∀ V', Below wz.heap.size wz V' → Calls Try.prog 18 #[.pointer (some ⟨x, 0, none⟩), .int .i64 G, .bool nb] V' fun e wy => ∃ r2, e = .returned r2 ∧ (wy.cell? ⟨z, 1, none⟩ = some (.int .i64 G) ∧ wy.cell? ⟨z, 2, none⟩ = some (.bool nb)) ∧ Hid (∀ V2, Below wy.heap.size wy V2 → Calls Try.prog 16 #[r, r2] V2 fun e wx => e = .returned (.bool true) ∧ Below V2.heap.size V2 wx ∧ Hid (∃ A B, Rb N w wx p q x y A B A B)))) := Lib.hid fun V hb => (b_put (hR2.out.below hb) G nb).mono fun e wz ⟨r, he, hq, hk, hi⟩ => ⟨r, he, hS.out wz ((kn_below hb).trans hk), Lib.hid fun V' hb' => (b_rput (hq.below hb') hsA.out G nb).mono fun e wy ⟨r2, he2, hq2, hk2, hi2⟩ => ⟨r2, he2, hS.out wy ((((kn_below hb).trans hk).trans (kn_below hb')).trans hk2), Lib.hid fun V2 hb2 => (ints_any ((hk2.ints (hi.below hb')).below hb2) (hi2.below hb2)).mono fun e wx ha => by
            obtain ⟨ea, hba⟩ := ha.below
            exact ⟨ea, hba, Lib.hid ⟨_, _, (hq2.below hb2).below hba⟩⟩⟩⟩
          clear hR2 hx hcells hS hsA hsB d0 d1 d2 hNz
          have hbd : Below w3.heap.size w3 w3.drew := (Below.refl _ _).drew
          go_wp2_with fail
          go_region_held3 (fun W' => W'.cell? ⟨z, 1, none⟩ = some (.int .i64 G) ∧ W'.cell? ⟨z, 2, none⟩ = some (.bool nb)) (first | exact ⟨c1, c2⟩ | go_keep | assumption | (go_split_ands; exact ⟨cell_then (by assumption) (by assumption), cell_then (by assumption) (by assumption)⟩)) (first | (go_at_call 16; ((with_reducible refine (hP3.out _ (by repeat (first | assumption | exact Below.refl _ _ | refine below_drewN ?_ _ | refine below_alloc ?_ _ | refine below_then ?_ (by assumption)))).mono ?_); rintro e wx ⟨rfl, hbx, hEnd⟩)) | (go_at_call 18; ((with_reducible refine (hP2.out _ (by repeat (first | assumption | exact Below.refl _ _ | refine below_drewN ?_ _ | refine below_alloc ?_ _ | refine below_then ?_ (by assumption)))).mono ?_); rintro e wy ⟨r2, rfl, hky, hP3⟩)) | (go_at_call 17; ((with_reducible refine (hP1.out _ (by repeat (first | assumption | exact Below.refl _ _ | refine below_drewN ?_ _ | refine below_alloc ?_ _ | refine below_then ?_ (by assumption)))).mono ?_); rintro e wz ⟨r, rfl, hkz, hP2⟩)))
          all_goals
            obtain ⟨A', B', hE⟩ := hEnd.out
            replace hE := Lib.hid hE
            go_wp2_with fail
            go_meet
            exact ⟨p, q, x, y, A', B', rfl, rfl, rfl, rfl, rfl, hE⟩
        · skip
          have hP1 : Hid (∀ V, Below w3.heap.size w3 V → Calls Try.prog 17 #[.pointer (some ⟨p, 0, none⟩), .int .i64 G, .bool nb] V fun e wz => ∃ r, e = .returned r ∧ (wz.cell? ⟨z, 1, none⟩ = some (.int .i64 G) ∧ wz.cell? ⟨z, 2, none⟩ = some (.bool nb)) ∧ Hid (∀ V', Below wz.heap.size wz V' → Calls Try.prog 18 #[.pointer (some ⟨x, 0, none⟩), .int .i64 G, .bool nb] V' fun e wy => ∃ r2, e = .returned r2 ∧ (wy.cell? ⟨z, 1, none⟩ = some (.int .i64 G) ∧ wy.cell? ⟨z, 2, none⟩ = some (.bool nb)) ∧ Hid (∀ V2, Below wy.heap.size wy V2 → Calls Try.prog 16 #[r, r2] V2 fun e wx => e = .returned (.bool true) ∧ Below V2.heap.size V2 wx ∧ Hid (∃ A B, Rb N w wx p q x y A B A B)))) := Lib.hid fun V hb => (b_put (hR2.out.below hb) G nb).mono fun e wz ⟨r, he, hq, hk, hi⟩ => ⟨r, he, hS.out wz ((kn_below hb).trans hk), Lib.hid fun V' hb' => (b_rput (hq.below hb') hsA.out G nb).mono fun e wy ⟨r2, he2, hq2, hk2, hi2⟩ => ⟨r2, he2, hS.out wy ((((kn_below hb).trans hk).trans (kn_below hb')).trans hk2), Lib.hid fun V2 hb2 => (ints_any ((hk2.ints (hi.below hb')).below hb2) (hi2.below hb2)).mono fun e wx ha => by
            obtain ⟨ea, hba⟩ := ha.below
            exact ⟨ea, hba, Lib.hid ⟨_, _, (hq2.below hb2).below hba⟩⟩⟩⟩
          clear hR2 hx hcells hS hsA hsB d0 d1 d2 hNz
          have hbd : Below w3.heap.size w3 w3.drew := (Below.refl _ _).drew
          go_wp2_with fail
          go_region_held3 (fun W' => W'.cell? ⟨z, 1, none⟩ = some (.int .i64 G) ∧ W'.cell? ⟨z, 2, none⟩ = some (.bool nb)) (first | exact ⟨c1, c2⟩ | go_keep | assumption | (go_split_ands; exact ⟨cell_then (by assumption) (by assumption), cell_then (by assumption) (by assumption)⟩)) (first | (go_at_call 16; ((with_reducible refine (hP3.out _ (by repeat (first | assumption | exact Below.refl _ _ | refine below_drewN ?_ _ | refine below_alloc ?_ _ | refine below_then ?_ (by assumption)))).mono ?_); rintro e wx ⟨rfl, hbx, hEnd⟩)) | (go_at_call 18; ((with_reducible refine (hP2.out _ (by repeat (first | assumption | exact Below.refl _ _ | refine below_drewN ?_ _ | refine below_alloc ?_ _ | refine below_then ?_ (by assumption)))).mono ?_); rintro e wy ⟨r2, rfl, hky, hP3⟩)) | (go_at_call 17; ((with_reducible refine (hP1.out _ (by repeat (first | assumption | exact Below.refl _ _ | refine below_drewN ?_ _ | refine below_alloc ?_ _ | refine below_then ?_ (by assumption)))).mono ?_); rintro e wz ⟨r, rfl, hkz, hP2⟩)))
          all_goals
            obtain ⟨A', B', hE⟩ := hEnd.out
            replace hE := Lib.hid hE
            go_wp2_with fail
            go_meet
            exact ⟨p, q, x, y, A', B', rfl, rfl, rfl, rfl, rfl, hE⟩
        · skip
          have cG := b_get hR2.out
          obtain ⟨g0, hg0⟩ : ∃ g0, (pGot A).1 = g0 := ⟨_, rfl⟩
          obtain ⟨b0, hb0⟩ : ∃ b0, (pGot A).2 = b0 := ⟨_, rfl⟩
          have hbb : (b0 == b0) = true := by cases b0 <;> rfl
          rw [hg0, hb0] at cG
          have cX : Hid (∀ W', Rb N w W' p q x y (pGet A) B A B → Calls Try.prog 20 #[.pointer (some ⟨x, 0, none⟩)] W' fun e W2 => e = .returned (.tuple #[.int .i64 g0, .bool b0]) ∧ Hid (∃ A B, Rb N w W2 p q x y A B A B)) := Lib.hid fun W' h => (b_rget h).mono fun e W2 ⟨he, h2, _⟩ => ⟨by rw [he, hg0, hb0], Lib.hid ⟨_, _, h2⟩⟩
          clear hR2 hx hcells hS hsA hsB c1 c2 d0 d1 d2 hNz hg0 hb0
          go_wp2_with fail
          with_reducible refine Calls.mono (cG) ?_
          rintro e w4 ⟨rfl, h4, _⟩
          have cX4 := cX.out w4 h4
          clear h4 cX cG
          go_wp2_with fail
          with_reducible refine Calls.mono (cX4) ?_
          rintro e w5 ⟨rfl, h5⟩
          obtain ⟨A', B', hE⟩ := h5.out
          replace hE := Lib.hid hE
          clear cX4 h5
          go_wp2_with fail
          go_meet
          exact ⟨p, q, x, y, A', B', rfl, rfl, rfl, rfl, rfl, hE⟩
        · skip
          have cG := b_steal hR2.out
          obtain ⟨n0, hn0⟩ : ∃ n0, sK A B = n0 := ⟨_, rfl⟩
          rw [hn0] at cG
          have cX : Hid (∀ W', Rb N w W' p q x y (sA A B) (sB A B) A B → Calls Try.prog 22 #[.pointer (some ⟨x, 0, none⟩), .pointer (some ⟨y, 0, none⟩)] W' fun e W2 => e = .returned (.int .i64 (n0 : Nat)) ∧ Hid (∃ A B, Rb N w W2 p q x y A B A B)) := Lib.hid fun W' h => (b_rsteal h hsA.out hsB.out).mono fun e W2 ⟨he, h2, _⟩ => ⟨by rw [he, hn0], Lib.hid ⟨_, _, h2⟩⟩
          clear hR2 hx hcells hS hsA hsB c1 c2 d0 d1 d2 hNz hn0
          go_wp2_with fail
          with_reducible refine Calls.mono (cG) ?_
          rintro e w4 ⟨rfl, h4, _⟩
          have cX4 := cX.out w4 h4
          clear h4 cX cG
          go_wp2_with fail
          with_reducible refine Calls.mono (cX4) ?_
          rintro e w5 ⟨rfl, h5⟩
          obtain ⟨A', B', hE⟩ := h5.out
          replace hE := Lib.hid hE
          clear cX4 h5
          go_wp2_with fail
          go_meet
          exact ⟨p, q, x, y, A', B', rfl, rfl, rfl, rfl, rfl, hE⟩
        · skip
          obtain ⟨b0, hb0⟩ : ∃ b0, dB A.1 A.2 G = b0 := ⟨_, rfl⟩
          have hbb : (b0 == b0) = true := by cases b0 <;> rfl
          have hP1 : Hid (∀ V, Below w3.heap.size w3 V → Calls Try.prog 23 #[.pointer (some ⟨p, 0, none⟩), .int .i64 G] V fun e wz => e = .returned (.bool b0) ∧ (wz.cell? ⟨z, 1, none⟩ = some (.int .i64 G)) ∧ Hid (∀ V', Below wz.heap.size wz V' → Calls Try.prog 24 #[.pointer (some ⟨x, 0, none⟩), .int .i64 G] V' fun e wy => e = .returned (.bool b0) ∧ (wy.cell? ⟨z, 1, none⟩ = some (.int .i64 G)) ∧ Hid (∃ A B, Rb N w wy p q x y A B A B))) := Lib.hid fun V hb => (b_del (hR2.out.below hb) G).mono fun e wz ⟨he, hq, hk⟩ => ⟨by rw [he, hb0], (hS.out wz ((kn_below hb).trans hk)).1, Lib.hid fun V' hb' => (b_rdel (hq.below hb') hsA.out G).mono fun e wy ⟨he2, hq2, hk2⟩ => ⟨by rw [he2, hb0], (hS.out wy ((((kn_below hb).trans hk).trans (kn_below hb')).trans hk2)).1, Lib.hid ⟨_, _, hq2⟩⟩⟩
          clear hR2 hx hcells hS hsA hsB c2 d0 d1 d2 hNz hb0
          have hbd : Below w3.heap.size w3 w3.drew := (Below.refl _ _).drew
          go_wp2_with fail
          go_region_held3 (fun W' => W'.cell? ⟨z, 1, none⟩ = some (.int .i64 G)) (first | exact c1 | go_keep | assumption | exact cell_then (by assumption) (by assumption)) (first | (go_at_call 24; ((with_reducible refine (hP2.out _ (by repeat (first | assumption | exact Below.refl _ _ | refine below_drewN ?_ _ | refine below_alloc ?_ _ | refine below_then ?_ (by assumption)))).mono ?_); rintro e wy ⟨rfl, hky, hEnd⟩)) | (go_at_call 23; ((with_reducible refine (hP1.out _ (by repeat (first | assumption | exact Below.refl _ _ | refine below_drewN ?_ _ | refine below_alloc ?_ _ | refine below_then ?_ (by assumption)))).mono ?_); rintro e wz ⟨rfl, hkz, hP2⟩)))
          all_goals
            obtain ⟨A', B', hE⟩ := hEnd.out
            replace hE := Lib.hid hE
            go_wp2_with fail
            go_meet
            exact ⟨p, q, x, y, A', B', rfl, rfl, rfl, rfl, rfl, hE⟩
        · skip
          obtain ⟨U, hU⟩ : ∃ U : Int, IntKind.u64.wrap G = U := ⟨_, rfl⟩
          have U0 : 0 ≤ U := by rw [← hU, IntKind.wrap_u64]; omega
          obtain ⟨T, hT⟩ : ∃ T : Nat, U % 300 = (T : Int) := ⟨(U % 300).toNat, by omega⟩
          have T1 : T < 300 := by omega
          replace hU := hU
          clear hcells hS hsA hsB c2 d0 d1 d2 c1
          go_wp2_with fail
          rw [ht]
          clear ht
          go_loopw [9, 14] (fun vo vj wq => ∃ (j : Nat) (A : Pr), vo = .bool true ∧ vj = .int .i64 j ∧ j ≤ T ∧ Hid (Rb N w wq p q x y A B A B) ∧ Hid (wq.heap[z]? = some (.cells #[.int .i64 K, .int .i64 G, .bool nb] 30 (0, 0)))) (fun _ vj _ => (T - (RowKit.intOf vj).toNat))
          case atStart => exact ⟨0, A, rfl, rfl, by omega, hR2, hx⟩
          case round =>
            clear hR2 hx
            obtain ⟨j, A, rfl, rfl, jT, hR4, hx4⟩ := hrel
            have c1 := cell_of hx4.out (j := 1) rfl
            have j0 : (0 : Int) ≤ (j : Int) := by omega
            have j3 : (j : Int) ≤ 300 := by omega
            by_cases hj : j < T
            · have j2 : (j : Int) < (T : Int) := by omega
              have hsA := Lib.hid hR4.out.a.small
              have cP := b_put hR4.out (j : Int) false
              have cX : Hid (∀ W' v, Rb N w W' p q x y (pPut A j false) B A B → Kn N wr W' → Ints W' (fun k => N ≤ k) v (pOut A j false) → Calls Try.prog 18 #[.pointer (some ⟨x, 0, none⟩), .int .i64 (j : Int), .bool false] W' fun e W2 => ∃ v2, e = .returned v2 ∧ Hid (Calls Try.prog 16 #[v, v2] W2 fun e W5 => e = .returned (.bool true) ∧ Hid (Rb N w W5 p q x y (pPut A j false) B (pPut A j false) B) ∧ Hid (W5.heap[z]? = some (.cells #[.int .i64 K, .int .i64 G, .bool nb] 30 (0, 0))))) := Lib.hid fun W' v h hk hi => (b_rput h hsA.out (j : Int) false).mono fun e W2 ⟨v2, he, h2, hk2, hi2⟩ => ⟨v2, he, Lib.hid ((ints_any (hk2.ints hi) hi2).mono fun e W5 ha => by
                obtain ⟨ea, hba⟩ := ha.below
                exact ⟨ea, Lib.hid (h2.below hba), Lib.hid (((hk.trans hk2).trans (kn_below hba)).block hNz.out hx4.out)⟩)⟩
              clear hR4 hx4 hsA
              go_wp2_with fail
              with_reducible refine Calls.mono (cP) ?_
              rintro e w4 ⟨v4, rfl, h4, k4, i4⟩
              have cX4 := cX.out w4 v4 h4 k4 i4
              clear h4 k4 i4 cX cP
              go_wp2_with fail
              with_reducible refine Calls.mono (cX4) ?_
              rintro e w5 ⟨v5, rfl, cI⟩
              clear cX4
              go_wp2_with fail
              with_reducible refine Calls.mono (cI.out) ?_
              rintro e w6 ⟨rfl, h6, x6⟩
              clear cI c1
              go_wp2_with fail
              go_roundw
              case rel => exact ⟨j + 1, _, rfl, by go_num, by omega, h6, x6⟩
              case measure => simp [RowKit.intOf]; omega
            · have j2 : ¬ (j : Int) < (T : Int) := by omega
              clear hx4
              go_wp2_with fail
              go_meet
              exact ⟨p, q, x, y, A, B, rfl, rfl, rfl, rfl, rfl, hR4⟩
        · skip
          have hE := Lib.hid hR2.out.swap
          clear hR2 hx hcells hS hsA hsB c1 c2 d0 d1 d2 hNz
          go_wp2_with fail
          go_meet
          exact ⟨q, p, y, x, B, A, rfl, rfl, rfl, rfl, rfl, hE⟩
      case rest =>
        clear hR2 hx hcells d0 d1 d2 d9 hNz
        obtain ⟨p, q, x, y, A, B, rfl, rfl, rfl, rfl, rfl, hR3⟩ := hcut
        have hsA := hR3.out.a.small
        have hsB := hR3.out.b.small
        obtain ⟨n1, hn1⟩ : ∃ n, (A.1.toList ++ A.2).length = n := ⟨_, rfl⟩
        obtain ⟨n2, hn2⟩ : ∃ n, (B.1.toList ++ B.2).length = n := ⟨_, rfl⟩
        have k1 := b_len hR3.out
        have k2 : Calls Try.prog 26 #[.pointer (some ⟨x, 0, none⟩)] wc fun e W' => ∃ s c, e = .returned (.slice s n1 c) ∧ Below wc.heap.size wc W' := (b_rall hR3.out hsA).mono fun e W' ⟨s, c, he, hb, _⟩ => ⟨s, c, by rw [he, hn1], hb⟩
        have k3 : Hid (∀ W', Below wc.heap.size wc W' → Calls Try.prog 25 #[.pointer (some ⟨q, 0, none⟩)] W' (Still (.int .i64 n2) W')) := Lib.hid fun W' hb => by rw [← hn2]; exact b_len (hR3.out.swap.below hb)
        have k4 : Hid (∀ W', Below wc.heap.size wc W' → Calls Try.prog 26 #[.pointer (some ⟨y, 0, none⟩)] W' fun e W2 => ∃ s c, e = .returned (.slice s n2 c) ∧ Below W'.heap.size W' W2) := Lib.hid fun W' hb => (b_rall (hR3.out.swap.below hb) hsB).mono fun e W2 ⟨s, c, he, hb, _⟩ => ⟨s, c, by rw [he, hn2], hb⟩
        have k5 : Hid (∀ W', Below wc.heap.size wc W' → Rb N w W' p q x y A B A B) := Lib.hid fun W' hb => hR3.out.below hb
        rw [hn1] at k1
        clear hR3 hsA hsB hn1 hn2
        go_wp2_with fail
        with_reducible refine Calls.mono (k1) ?_
        rintro e w' ⟨rfl, rfl⟩
        go_wp2_with fail
        with_reducible refine Calls.mono (k2) ?_
        rintro e w5 ⟨s5, c5, rfl, hb5⟩
        have k35 := k3.out w5 hb5
        have k45 := k4.out w5 hb5
        clear k1 k2 k3 k4
        go_wp2_with fail
        with_reducible refine Calls.mono (k35) ?_
        rintro e w' ⟨rfl, rfl⟩
        go_wp2_with fail
        with_reducible refine Calls.mono (k45) ?_
        rintro e w6 ⟨s6, c6, rfl, hb6⟩
        have hE := Lib.hid (k5.out w6 (hb5.trans (hb6.mono hb5.size)))
        clear k35 k45 k5 hb5 hb6
        go_wp2_with fail
        go_roundw
        case rel => exact ⟨k + 1, p, q, x, y, A, B, rfl, rfl, rfl, rfl, by go_num, by omega, by omega, hE⟩
        case measure => simp [RowKit.intOf]; omega
    · have hb0 := hR.out.bel
      have hsA := Lib.hid hR.out.a.small
      have hsB := Lib.hid hR.out.b.small
      clear hcells hb0
      by_cases hkl : k < l
      · have i2 : (k : Int) < (l : Int) := by omega
        have i3 : ¬ (k : Int) < 60 := by omega
        go_wp2_with fail
        with_reducible refine Calls.mono (Ri.told_any wr) ?_
        rintro e w4 ⟨rfl, hb4⟩
        have h4 := hR.out.below hb4
        obtain ⟨n1, hn1⟩ : ∃ n, (A.1.toList ++ A.2).length = n := ⟨_, rfl⟩
        obtain ⟨n2, hn2⟩ : ∃ n, (B.1.toList ++ B.2).length = n := ⟨_, rfl⟩
        replace hn1 := Lib.hid hn1
        replace hn2 := Lib.hid hn2
        clear hb4 hR
        go_wp2_with fail
        with_reducible refine Calls.mono (b_all h4) ?_
        rintro e w5 ⟨v5, rfl, hb5, hi5⟩
        have h5 := h4.below hb5
        clear h4 hb5
        go_wp2_with fail
        with_reducible refine Calls.mono (b_rall2 hn1.out h5 hsA.out) ?_
        rintro e w6 ⟨s6, c6, rfl, hb6, hi6⟩
        have h6 := h5.below hb6
        have ci := ints_any (hi5.below hb6) hi6
        clear h5 hb6 hi5 hi6
        go_wp2_with fail
        with_reducible refine Calls.mono (ci) ?_
        rintro e w7 ha
        obtain ⟨rfl, hb7⟩ := ha.below
        have h7 := (h6.below hb7).swap
        clear h6 hb7 ha ci
        go_wp2_with fail
        with_reducible refine Calls.mono (b_all h7) ?_
        rintro e w8 ⟨v8, rfl, hb8, hi8⟩
        have h8 := h7.below hb8
        clear h7 hb8
        go_wp2_with fail
        with_reducible refine Calls.mono (b_rall2 hn2.out h8 hsB.out) ?_
        rintro e w9 ⟨s9, c9, rfl, hb9, hi9⟩
        have h9 := h8.below hb9
        have ci := ints_any (hi8.below hb9) hi9
        clear h8 hb9 hi8 hi9
        go_wp2_with fail
        with_reducible refine Calls.mono (ci) ?_
        rintro e wA ha
        obtain ⟨rfl, hbA⟩ := ha.below
        have hA := Lib.hid (h9.below hbA).bel
        clear h9 hbA ha ci
        go_wp2_with fail
        go_ret
        exact ⟨rfl, hA.out⟩
      · have i2 : ¬ (k : Int) < (l : Int) := by omega
        go_wp2_with fail
        with_reducible refine Calls.mono (Ri.told_any wr) ?_
        rintro e w4 ⟨rfl, hb4⟩
        have h4 := hR.out.below hb4
        obtain ⟨n1, hn1⟩ : ∃ n, (A.1.toList ++ A.2).length = n := ⟨_, rfl⟩
        obtain ⟨n2, hn2⟩ : ∃ n, (B.1.toList ++ B.2).length = n := ⟨_, rfl⟩
        replace hn1 := Lib.hid hn1
        replace hn2 := Lib.hid hn2
        clear hb4 hR
        go_wp2_with fail
        with_reducible refine Calls.mono (b_all h4) ?_
        rintro e w5 ⟨v5, rfl, hb5, hi5⟩
        have h5 := h4.below hb5
        clear h4 hb5
        go_wp2_with fail
        with_reducible refine Calls.mono (b_rall2 hn1.out h5 hsA.out) ?_
        rintro e w6 ⟨s6, c6, rfl, hb6, hi6⟩
        have h6 := h5.below hb6
        have ci := ints_any (hi5.below hb6) hi6
        clear h5 hb6 hi5 hi6
        go_wp2_with fail
        with_reducible refine Calls.mono (ci) ?_
        rintro e w7 ha
        obtain ⟨rfl, hb7⟩ := ha.below
        have h7 := (h6.below hb7).swap
        clear h6 hb7 ha ci
        go_wp2_with fail
        with_reducible refine Calls.mono (b_all h7) ?_
        rintro e w8 ⟨v8, rfl, hb8, hi8⟩
        have h8 := h7.below hb8
        clear h7 hb8
        go_wp2_with fail
        with_reducible refine Calls.mono (b_rall2 hn2.out h8 hsB.out) ?_
        rintro e w9 ⟨s9, c9, rfl, hb9, hi9⟩
        have h9 := h8.below hb9
        have ci := ints_any (hi8.below hb9) hi9
        clear h8 hb9 hi8 hi9
        go_wp2_with fail
        with_reducible refine Calls.mono (ci) ?_
        rintro e wA ha
        obtain ⟨rfl, hbA⟩ := ha.below
        have hA := Lib.hid (h9.below hbA).bel
        clear h9 hbA ha ci
        go_wp2_with fail
        go_ret
        exact ⟨rfl, hA.out⟩

set_option maxRecDepth 100000 in
theorem lifted (os : Os) (started : os.Started) (H : Type) (enc : TypeId × Value → H) :
    ReturnsInHanded {} Try.checked os 3 .any (Rows.ringPlaysSpec.pre6 enc Try.prog Try.f3 Rows.ringPlaysRow.domain false) (Rows.ringPlaysSpec.post enc Try.prog Try.f3 false true false false) := by
  refine returnsInHanded_of_change (C := Try.checked) own started (by kernel_rfl) Try.func3
    (ChangeSpec.witness6 (enc := enc) (C := Try.checked) false ⟨#[], #[.slice none 0 0], []⟩ 8 (by kernel_rfl) (by kernel_rfl) (by kernel_rfl) (by kernel_rfl)) ?_
  intro W base args ds gs before hval0 hW hcnd _
  have hval : ∀ (j : Nat) t v, Try.f3.params[j]? = some t → args[j]? = some v → Value.okWide Try.prog W .any base t v := hval0
  have hW' := hW
  obtain ⟨p, q, hA0, hV, rfl, hfz, hnd⟩ := hW
  have hA : DataW.TrodAll enc Try.prog W 0 (fun _ => true) true Try.f3.params.toList args.toList ds p := hA0
  rw [Try.params3] at hA hval
  obtain ⟨v0, vs0, d0, ds0, p0, q0, hargs, rfl, rfl, h0, r0⟩ := trodAll_cons hA
  obtain ⟨rfl, rfl, rfl⟩ := trodAll_nil r0
  obtain rfl : args = #[v0] := by cases args; simp_all
  obtain ⟨rfl, rfl⟩ := trodVars_none hV
  obtain ⟨zb0, i0⟩ := op10_arg (hval 0 22 v0 rfl rfl) h0
  clear hA0 hval0
  simp only [List.append_nil] at hW'
  have lt0 : ∀ x ∈ p0, x.block < W.heap.size := fun x hx => by have := hW'.lt x (by simp [hx]); simpa using this
  refine (walk v0 zb0 W i0).mono fun e W' ⟨he, hg⟩ => ?_
  subst he
  exact ⟨_, rfl, post_of_kept (pa := _) (pv := []) hW' (fun _ _ _ => (trodAll_cons_mk (shut_bool Try.underlying4 _) trodAll_mk0)) (trodAll_cons_mk (Below.trod laidOut (by kernel_rfl) (of_decide_eq_true (by kernel_rfl)) h0 hg lt0) trodAll_mk0) (fun _ _ => rfl) (by simp) hg⟩

theorem over : Rows.ringPlaysRow.holds Try.pinned (OpenSpec.ofChange Rows.ringPlaysSpec) :=
  OpenClaim.holds_of_wide 3 Try.f3 rfl rfl rfl rfl rfl rfl rfl ⟨rfl, rfl, rfl, rfl, rfl⟩ rfl rfl rfl rfl rfl (by kernel_rfl) Try.func3 (by kernel_rfl)
    (of_decide_eq_true (by kernel_rfl)) (by unfold Func.isWrapper; first | (rw [if_pos (by decide +kernel)]; kernel_rfl) | (rw [if_neg (by decide +kernel)]; exact ⟨rfl, rfl⟩))
    (fun os started H enc _ => lifted os started H enc)

theorem proved : Rows.RingPlaysSaid :=
  over
#print axioms proved
end Go.Proofs.Ytclldajbibhcbaa.ringPlays
