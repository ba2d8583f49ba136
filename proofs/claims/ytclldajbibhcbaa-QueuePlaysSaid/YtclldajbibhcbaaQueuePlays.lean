/- For any list of operations the statement QueuePlays answers true and leaves it as it was: the common queue goes as the document says, call by call. No condition. -/
import Derived.Test.YtclldajbibhcbaaHome
import Derived.Test.YtclldajbibhcbaaQBoth
import Derived.Test.YtclldajbibhcbaaOp11
import Derived.WalkKit
import Derived.ProofKit
import Derived.OpenShut
import Derived.Deep.RegionHeld3
import Derived.Deep.RegionWith
import Derived.Deep.Cut
import Derived.Deep.CutBlock
import Derived.Deep.CutRange
import Derived.Deep.LoopGhost
import Derived.Deep.DeepCutAuto
import Derived.RegionTactic
import Derived.StillTailTactics
namespace Go.Proofs.Ytclldajbibhcbaa.queuePlays
open Go.ChangeShapes Go.WideShapes Go.ChangeAt Go.WideElems Go.RowKit Go.Lib Fx Ho Qd Qu Rw Rw
set_option linter.unusedVariables false

theorem own : ownKnob Try.prog.godebug = none := by kernel_rfl

theorem trem (x : Int) : -5 < x.tmod 5 ∧ x.tmod 5 < 5 := by
  rw [Int.tmod_eq_emod]; split <;> omega
theorem new_both {w w1 : World} (hb : Below w.heap.size w w1) (h : Qu.IsQ w1 w.heap.size (.slice none 0 0) []) : Qd.Qt (fun _ => False) w (w1.alloc (.cells #[.slice none 0 0] 48)) w.heap.size w1.heap.size [] [] := by
  have hl := Ho.block_lt h.head
  have hb2 := below_alloc (Below.refl _ w1) (.cells #[.slice none 0 0] 48)
  refine ⟨.slice none 0 0, .slice none 0 0, ⟨h.below hb2, ⟨heap_alloc_new _ _, Qu.offrow_nil _, by intro e; cases e⟩, ?_, ?_, ?_, hb.trans (hb2.mono hb.size)⟩, fun k hk => hk.elim, fun k hk => hk.elim, fun k hk => hk.elim⟩
  · intro k hk; rcases hk with rfl | hk
    · exact Nat.le_refl _
    · cases hk
  · intro k hk; rcases hk with rfl | hk
    · exact hb.size
    · cases hk
  · intro k hk hh
    rcases hk with rfl | hk
    · rcases hh with hh | hh
      · omega
      · cases hh
    · cases hk
set_option maxRecDepth 100000 in
set_option maxHeartbeats 4000000 in
theorem walk (v0 : Value) (zb0 : List _) (w : World) (h0 : Op11 w v0 zb0) :
    Calls Try.prog 4 #[v0] w fun e w' => e = .returned (.bool true) ∧ Below w.heap.size w w' := by
  obtain ⟨sp, cap, rfl, hm, hc⟩ := h0
  obtain ⟨l, hl⟩ : ∃ l, zb0.length = l := ⟨_, rfl⟩
  rw [hl] at hm hc ⊢
  have hcells : Hid (∀ wr, Below w.heap.size w wr → ∀ i, i < l → ∃ b off K P M G sl n cl zl, sp = some ⟨b, off, none⟩ ∧ wr.cell? ⟨b, off + i * 5, none⟩ = some (.int .i64 K) ∧ wr.cell? ⟨b, off + i * 5 + 1, none⟩ = some (.int .i64 P) ∧ wr.cell? ⟨b, off + i * 5 + 2, none⟩ = some (.int .i64 M) ∧ wr.cell? ⟨b, off + i * 5 + 3, none⟩ = some (.int .i64 G) ∧ wr.cell? ⟨b, off + i * 5 + 4, none⟩ = some (.slice sl n cl) ∧ Ints w (fun k => k < w.heap.size) (.slice sl n cl) zl ∧ zl.length = n ∧ P ≤ 9223372036854775807 ∧ M ≤ 9223372036854775807) := Lib.hid fun wr hb i hi => by
    obtain ⟨b, off, e, _, d0, d1, d2, d3, d4, d5, w1, w2⟩ := hc i hi
    have t : ∀ {j : Nat} {v : Value}, w.cell? ⟨b, off + (i * 5 + j), none⟩ = some v → wr.cell? ⟨b, off + i * 5 + j, none⟩ = some v := fun {j v} h => by have := cell_then hb h; rwa [← Nat.add_assoc] at this
    have d6 := d5
    have b1 := bounds_i64 w1
    have b2 := bounds_i64 w2
    obtain ⟨s, c, e4, _⟩ := d5
    rw [e4] at d4 d6
    exact ⟨b, off, _, _, _, _, s, _, c, _, e, cell_then hb d0, t d1, t d2, t d3, t d4, d6, rfl, by omega, by omega⟩
  clear hc hl
  have cn := Qu.new_any w
  obtain ⟨R0, hR0⟩ : ∃ R0 : Array Value, #[.slice none 0 0] = R0 := ⟨_, rfl⟩
  have h0 : Try.prog.built 48 [] = some R0 := by rw [← hR0]; kernel_rfl
  go_enter Try.func4, Try.ntmps4
  go_wp2_with fail
  with_reducible refine Calls.mono (cn) ?_
  rintro e w1 ⟨rfl, hb1, hq1⟩
  clear cn
  have hW := Lib.hid (new_both hb1 hq1)
  rw [hR0] at hW
  obtain ⟨p, hp⟩ : ∃ p, w.heap.size = p := ⟨_, rfl⟩
  replace hp := Lib.hid hp
  rw [hp.out] at hW
  clear hb1 hq1 hR0
  go_wp2_with (refine wpList_built rfl 48 #[] rfl R0 (by simpa using h0) ?_)
  rw [hp.out]
  generalize w1.alloc (.cells R0 48) = w2 at *
  generalize w1.heap.size = y at *
  clear h0
  go_loopw [5] (fun x wr => ∃ (k : Nat) (zs : List Int), x = .int .i64 k ∧ k ≤ l ∧ k ≤ 60 ∧ Hid (zs.length ≤ 40 * k) ∧ Hid (Qt (fun _ => False) w wr p y zs zs)) (fun x _ => (60 - (RowKit.intOf x).toNat))
  case atStart => exact ⟨0, [], rfl, by omega, by omega, Lib.hid (by simp), hW⟩
  case round =>
    clear hW
    obtain ⟨k, zs, rfl, kl, k60, hZ, hR⟩ := hrel
    by_cases hk : k < l ∧ k < 60
    · obtain ⟨hk1, hk2⟩ := hk
      have i2 : (k : Int) < (l : Int) := by omega
      have i3 : (k : Int) < 60 := by omega
      have i0 : (0 : Int) ≤ (k : Int) := by omega
      obtain ⟨b, off, K, P, M, G, sl, n, cl, zl, rfl, d0, d1, d2, d3, d4, hil, hnl, hP, hM⟩ := hcells.out wr hR.out.out k hk1
      obtain ⟨z, hz⟩ : ∃ z, wr.heap.size = z := ⟨_, rfl⟩
      have hbx := below_alloc (Below.refl _ wr) (.cells #[.int .i64 K, .int .i64 P, .int .i64 M, .int .i64 G, .slice sl n cl] 50)
      have hx : Hid ((wr.alloc (.cells #[.int .i64 K, .int .i64 P, .int .i64 M, .int .i64 G, .slice sl n cl] 50)).heap[z]? = some (.cells #[.int .i64 K, .int .i64 P, .int .i64 M, .int .i64 G, .slice sl n cl] 50 (0, 0))) := Lib.hid (by rw [← hz]; exact heap_alloc_new _ _)
      have hsz : (wr.alloc (.cells #[.int .i64 K, .int .i64 P, .int .i64 M, .int .i64 G, .slice sl n cl] 50)).heap.size = wr.heap.size + 1 := by show (wr.heap.push _).size = _; rw [Array.size_push]
      have hR2 : Hid (Qt (fun k => k = z) w (wr.alloc (.cells #[.int .i64 K, .int .i64 P, .int .i64 M, .int .i64 G, .slice sl n cl] 50)) p y zs zs) := Lib.hid (hR.out.more hbx (fun k hk => Or.inr (by omega)))
      have hil2 := Lib.hid hil
      have hlow := Lib.hid (hR.out.out.size)
      have hnl := Lib.hid hnl
      clear hR hbx hsz hil
      obtain ⟨yk, hy⟩ : ∃ yk, K.tmod 5 = yk := ⟨_, rfl⟩
      have hy2 := trem K
      have y1 : -5 < yk := by omega
      have y2 : yk < 5 := by omega
      clear hy2
      obtain ⟨t, ht⟩ : ∃ t, (yk + 5) % 5 = t := ⟨_, rfl⟩
      have d9 := cell_of hx.out (j := 0) rfl
      have e4 := cell_of hx.out (j := 4) rfl
      have hn0 : (0 : Int) ≤ (n : Int) := by omega
      by_cases h40 : (40 : Int) < (n : Int)
      · have hb0 := hR2.out.out
        clear hR2 hx hil2 hcells hZ hlow
        go_wp2_with fail
        generalize wr.alloc (.cells #[.int .i64 K, .int .i64 P, .int .i64 M, .int .i64 G, .slice sl n cl] 50) = w3 at *
        with_reducible refine Calls.mono (Qu.told_any _) ?_
        rintro e w4 ⟨rfl, hb4⟩
        go_wp2_with fail
        go_ret
        exact ⟨rfl, hb0.trans (hb4.mono hb0.size)⟩
      go_upto_block 2 with fail
      generalize wr.alloc (.cells #[.int .i64 K, .int .i64 P, .int .i64 M, .int .i64 G, .slice sl n cl] 50) = w3 at *
      go_cut [7, 8, 9, 10] from 16 to 125 (fun s7 s8 s9 s10 wx => ∃ z2, Hid (z2.length ≤ 40 * k + 40) ∧ Hid (Qt (fun _ => False) w wx p y z2 z2))
      case first =>
        rcases (show t = 0 ∨ t = 1 ∨ t = 2 ∨ t = 3 ∨ t = 4 by omega) with rfl | rfl | rfl | rfl | rfl
        · skip
          have hsL : Hid (∀ W, Below w.heap.size w W → Src Try.prog 1 26 (.slice sl n cl) zl.length (cells zl) W) := Lib.hid fun W hb => src_of_ints (hil2.out.below hb)
          have e1 : Hid ((w3.alloc (.cells #[] 3)).heap[w3.heap.size]? = some (.cells #[] 3 (0, 0))) := Lib.hid (heap_alloc_new _ _)
          have e2 : w3.heap.size ≤ (w3.alloc (.cells #[] 3)).heap.size := by show _ ≤ (w3.heap.push _).size; rw [Array.size_push]; omega
          have hb1 : Hid (Below w.heap.size w (w3.alloc (.cells #[] 3))) := Lib.hid (hR2.out.out.trans ((below_alloc (Below.refl _ _) _).mono hR2.out.out.size))
          have hbA : ([] : List Int).length + zl.length ≤ 1000000 := by rw [hnl.out]; simp; omega
          have hb30 : Hid (Below w3.heap.size w3 (w3.alloc (.cells #[] 3))) := Lib.hid (below_alloc (Below.refl _ _) _)
          have hle : zs.length + zl.length ≤ 1000000 := by have := hZ.out; have := hnl.out; omega
          have hle2 := Lib.hid hle
          have hbA2 := Lib.hid hbA
          clear hle hbA
          have hzl : z < w3.heap.size := block_lt hx.out
          go_wp2_with (at_builtin; refine wpList_append_low rfl (.tmp 63) (.tmp 65) rfl rfl w3.heap.size (off_empty (by exact e1.out)) (low_some (Nat.le_refl _)) (by exact e2) rfl rfl (hsL.out _ hb1.out) hbA2.out ?_; intro v7 w7 hr7 hl7 hb7; have hv7 := off_slice hr7 (n := n) (by exact hnl.out); obtain ⟨s7, c7, rfl⟩ := hv7; replace hr7 := Lib.hid hr7; replace hl7 := Lib.hid hl7; replace hb7 := Lib.hid (hb30.out.trans hb7))
          have hQ1 : Qt (fun k => k = z ∨ (Value.slice s7 n c7).ownBlock = some k) w w7 p y zs zs := hR2.out.more hb7.out (fun k hk => hk.elim Or.inl (fun hk => Or.inr ⟨hl7.out k hk, hr7.out.lt hk⟩))
          with_reducible refine Calls.mono (qt_put hQ1 (ys := zl) hr7.out.ints hle2.out) ?_
          rintro e w8 ⟨rfl, hQ2, hK2⟩
          have hr8 := Lib.hid (hK2.off hr7.out (fun k hk => Or.inr hk))
          have hx8 := Lib.hid (hK2.block (k := z) (Or.inl rfl) ((hb7.out.block z (block_lt hx.out)).trans hx.out))
          have hbz : Hid (∀ b', (Value.slice s7 n c7).ownBlock = some b' → w.heap.size ≤ b' ∧ b' ≠ z) := Lib.hid fun b' hb => ⟨by have := hl7.out b' hb; have := hR2.out.out.size; omega, by have := hl7.out b' hb; have := block_lt hx.out; omega⟩
          replace hQ2 := Lib.hid hQ2
          clear hQ1 hK2 hr7 hl7 hb7 e1 e2 hb1 hb30 hR2 hx d9 e4 hcells hlow d0 d1 d2 d3 d4
          go_wp2_with fail
          go_loopw [8] (fun x wq => ∃ (j : Nat) (zi : List Int), x = .int .i64 j ∧ j ≤ n ∧ Hid (zi.length = n) ∧ Hid (OffRow wq (.slice s7 n c7) zi) ∧ Hid (Qt (fun k => k = z ∨ (Value.slice s7 n c7).ownBlock = some k) w wq p y (zs ++ zl) zs) ∧ Hid (wq.heap[z]? = some (.cells #[.int .i64 K, .int .i64 P, .int .i64 M, .int .i64 G, .slice sl n cl] 50 (0, 0)))) (fun x _ => (n - (RowKit.intOf x).toNat))
          case atStart => exact ⟨0, zl, rfl, by omega, hnl, hr8, hQ2, hx8⟩
          case round =>
            clear hr8 hQ2 hx8
            obtain ⟨j, zi, rfl, j1, hzi, hro, hqt, hxx⟩ := hrel
            by_cases hj : j < n
            · have hS2 := off_at hro.out hzi.out hj
              obtain ⟨b', o', yy, rfl, f1, f2⟩ := hS2
              have j0 : (0 : Int) ≤ (j : Int) := by omega
              have j2 : (j : Int) < (n : Int) := by omega
              have hS3 := Lib.hid (off_set hro.out hzi.out hj (-7))
              have hbb := hbz.out b' rfl
              have hw3 : Wrote (fun k => k = b') wr (fun k => k = b') (wr.setCell ⟨b', o' + j, none⟩ (.int .i64 (-7))) := wrote_setCell rfl rfl rfl rfl rfl
              have hq3 := Lib.hid (hqt.out.scr hw3 (fun k hk => Or.inr (by rw [show k = b' from hk]; rfl)) (fun k hk => by rw [show k = b' from hk]; exact hbb.1))
              have hx3 := Lib.hid ((hw3.block z (block_lt hxx.out) (fun e => hbb.2 e.symm)).trans hxx.out)
              have hz3 : Hid ((zi.set j (-7)).length = n) := Lib.hid (by rw [List.length_set]; exact hzi.out)
              clear hro hqt hxx hw3 hbb hzi hsL
              go_wp2_with fail
              go_roundw
              case rel => exact ⟨j + 1, _, by go_num, by omega, hz3, hS3, hq3, hx3⟩
              case measure => simp [RowKit.intOf]; omega
            · obtain rfl : n = j := by omega
              have hqz : Qt (fun k => k = z) w wr p y (zs ++ zl) zs := hqt.out.less (fun k hk => Or.inl hk)
              have hbw := hqz.out
              obtain ⟨v, u, hq, h1, h2, h3⟩ := hqz
              obtain ⟨su, cu, eu⟩ := hq.x.row.slice
              have c0 := hq.x.c0
              have e4 := cell_of hxx.out (j := 4) rfl
              have hyl : y < wr.heap.size := block_lt hq.x.head
              have hzl2 : z < wr.heap.size := block_lt hxx.out
              have hsX : Hid (∀ W, Below wr.heap.size wr W → Src Try.prog 1 26 u zs.length (cells zs) W) := Lib.hid fun W hb => src_of_ints (hq.x.row.ints.below hb)
              have hsL2 : Hid (∀ W, Below wr.heap.size wr W → Src Try.prog 1 26 (.slice sl n cl) zl.length (cells zl) W) := Lib.hid fun W hb => hsL.out W (hbw.trans (hb.mono hbw.size))
              have hfin : Hid (∀ (W : World) (v9 : Value), Below wr.heap.size wr W → Low wr.heap.size (fun k => v9.ownBlock = some k) → OffRow W v9 (zs ++ zl) → (∃ s m c, v9 = .slice s m c) ∧ W.cell? ⟨y, 0, none⟩ = some u ∧ W.frozen? ⟨y, 0, none⟩ = false ∧ Hid (∃ z2, Hid (z2.length ≤ 40 * k + 40) ∧ Hid (Qt (fun _ => False) w (W.setCell ⟨y, 0, none⟩ v9) p y z2 z2))) := Lib.hid fun W v9 hb hl hr => by
                obtain ⟨s, c, e⟩ := hr.slice
                have hx1 := hq.x.below hb
                refine ⟨⟨s, _, c, e⟩, hx1.c0, hx1.fz, Lib.hid ⟨zs ++ zl, Lib.hid ?_, Lib.hid ((qx_lay hq h1 h2 h3 hr (Wrote.of_made hb hl)).1.less (fun k hk => hk.elim))⟩⟩
                rw [List.length_append, hnl.out]; have := hZ.out; omega
              have hbA : ([] : List Int).length + zs.length ≤ 1000000 := by have := hZ.out; simp; omega
              have hbB := hle2.out
              clear hqt hq h1 h2 h3 hbw hxx hro hsL
              rw [eu] at c0 hsX hfin
              clear eu
              go_wp2_with fail
              go_region_law (first
                | (refine step_append_off rfl (.tmp 85) (.tmp 87) rfl rfl (off_below hrA.out (by (repeat (first | exact Below.refl _ _ | refine below_alloc ?_ _ | refine below_drewN ?_ _ | refine Below.drew ?_)))) rfl rfl (hsL2.out _ (by (repeat (first | exact hBA.out | exact Below.refl _ _ | refine below_alloc ?_ _ | refine below_drewN ?_ _ | refine Below.drew ?_)))) hbB ?_; intro v9 w9 g3 g4; have hl9 := g4.low hlA.out (Below.size (w := wr) (by (repeat (first | exact hBA.out | exact Below.refl _ _ | refine below_alloc ?_ _ | refine below_drewN ?_ _ | refine Below.drew ?_)))); have hB9 := g4.below hlA.out (by (repeat (first | exact hBA.out | exact Below.refl _ _ | refine below_alloc ?_ _ | refine below_drewN ?_ _ | refine Below.drew ?_))); have hk9 := hfin.out w9 v9 hB9 hl9 g3; obtain ⟨⟨s9, n9, c9, rfl⟩, f1, f2, hgo⟩ := hk9; clear g3 g4 hl9 hB9 hrA hlA hBA hfin)
                | (refine step_append_off rfl (.tmp 80) (.tmp 84) rfl rfl (lit_off (by first | exact lt_new _ _ | exact lt_new1 (by exact size_new wr _) | exact Nat.lt_trans (lt_new _ _) (lt_new _ _))) rfl rfl (hsX.out _ (by (repeat (first | exact Below.refl _ _ | refine below_alloc ?_ _ | refine below_drewN ?_ _ | refine Below.drew ?_)))) hbA ?_; intro vA wA g1 g2; have hk := off_one (wq := wr) (by (repeat (first | exact Below.refl _ _ | refine below_alloc ?_ _ | refine below_drewN ?_ _ | refine Below.drew ?_))) (by first | exact Nat.le_refl _ | exact Nat.le_succ _ | exact Below.size (w := wr) (by (repeat (first | exact Below.refl _ _ | refine below_alloc ?_ _ | refine below_drewN ?_ _ | refine Below.drew ?_)))) g1 g2; have hrA := Lib.hid hk.1; have hlA := Lib.hid hk.2.1; have hBA := Lib.hid hk.2.2.1; have fA4 := cell_then hBA.out e4; have fA0 := cell_then hBA.out c0; clear hk g1 g2))
              all_goals
                go_wp2_with fail
                go_meet
                exact hgo.out
        · skip
          have hsL : Hid (∀ W, Below w.heap.size w W → Src Try.prog 1 26 (.slice sl n cl) zl.length (cells zl) W) := Lib.hid fun W hb => src_of_ints (hil2.out.below hb)
          have e1 : Hid ((w3.alloc (.cells #[] 3)).heap[w3.heap.size]? = some (.cells #[] 3 (0, 0))) := Lib.hid (heap_alloc_new _ _)
          have e2 : w3.heap.size ≤ (w3.alloc (.cells #[] 3)).heap.size := by show _ ≤ (w3.heap.push _).size; rw [Array.size_push]; omega
          have hb1 : Hid (Below w.heap.size w (w3.alloc (.cells #[] 3))) := Lib.hid (hR2.out.out.trans ((below_alloc (Below.refl _ _) _).mono hR2.out.out.size))
          have hbA : ([] : List Int).length + zl.length ≤ 1000000 := by rw [hnl.out]; simp; omega
          have hb30 : Hid (Below w3.heap.size w3 (w3.alloc (.cells #[] 3))) := Lib.hid (below_alloc (Below.refl _ _) _)
          have hle : zs.length + zl.length ≤ 1000000 := by have := hZ.out; have := hnl.out; omega
          have hle2 := Lib.hid hle
          have hbA2 := Lib.hid hbA
          clear hle hbA
          have hzl : z < w3.heap.size := block_lt hx.out
          go_wp2_with (at_builtin; refine wpList_append_low rfl (.tmp 63) (.tmp 65) rfl rfl w3.heap.size (off_empty (by exact e1.out)) (low_some (Nat.le_refl _)) (by exact e2) rfl rfl (hsL.out _ hb1.out) hbA2.out ?_; intro v7 w7 hr7 hl7 hb7; have hv7 := off_slice hr7 (n := n) (by exact hnl.out); obtain ⟨s7, c7, rfl⟩ := hv7; replace hr7 := Lib.hid hr7; replace hl7 := Lib.hid hl7; replace hb7 := Lib.hid (hb30.out.trans hb7))
          have hQ1 : Qt (fun k => k = z ∨ (Value.slice s7 n c7).ownBlock = some k) w w7 p y zs zs := hR2.out.more hb7.out (fun k hk => hk.elim Or.inl (fun hk => Or.inr ⟨hl7.out k hk, hr7.out.lt hk⟩))
          with_reducible refine Calls.mono (qt_put hQ1 (ys := zl) hr7.out.ints hle2.out) ?_
          rintro e w8 ⟨rfl, hQ2, hK2⟩
          have hr8 := Lib.hid (hK2.off hr7.out (fun k hk => Or.inr hk))
          have hx8 := Lib.hid (hK2.block (k := z) (Or.inl rfl) ((hb7.out.block z (block_lt hx.out)).trans hx.out))
          have hbz : Hid (∀ b', (Value.slice s7 n c7).ownBlock = some b' → w.heap.size ≤ b' ∧ b' ≠ z) := Lib.hid fun b' hb => ⟨by have := hl7.out b' hb; have := hR2.out.out.size; omega, by have := hl7.out b' hb; have := block_lt hx.out; omega⟩
          replace hQ2 := Lib.hid hQ2
          clear hQ1 hK2 hr7 hl7 hb7 e1 e2 hb1 hb30 hR2 hx d9 e4 hcells hlow d0 d1 d2 d3 d4
          go_wp2_with fail
          go_loopw [8] (fun x wq => ∃ (j : Nat) (zi : List Int), x = .int .i64 j ∧ j ≤ n ∧ Hid (zi.length = n) ∧ Hid (OffRow wq (.slice s7 n c7) zi) ∧ Hid (Qt (fun k => k = z ∨ (Value.slice s7 n c7).ownBlock = some k) w wq p y (zs ++ zl) zs) ∧ Hid (wq.heap[z]? = some (.cells #[.int .i64 K, .int .i64 P, .int .i64 M, .int .i64 G, .slice sl n cl] 50 (0, 0)))) (fun x _ => (n - (RowKit.intOf x).toNat))
          case atStart => exact ⟨0, zl, rfl, by omega, hnl, hr8, hQ2, hx8⟩
          case round =>
            clear hr8 hQ2 hx8
            obtain ⟨j, zi, rfl, j1, hzi, hro, hqt, hxx⟩ := hrel
            by_cases hj : j < n
            · have hS2 := off_at hro.out hzi.out hj
              obtain ⟨b', o', yy, rfl, f1, f2⟩ := hS2
              have j0 : (0 : Int) ≤ (j : Int) := by omega
              have j2 : (j : Int) < (n : Int) := by omega
              have hS3 := Lib.hid (off_set hro.out hzi.out hj (-7))
              have hbb := hbz.out b' rfl
              have hw3 : Wrote (fun k => k = b') wr (fun k => k = b') (wr.setCell ⟨b', o' + j, none⟩ (.int .i64 (-7))) := wrote_setCell rfl rfl rfl rfl rfl
              have hq3 := Lib.hid (hqt.out.scr hw3 (fun k hk => Or.inr (by rw [show k = b' from hk]; rfl)) (fun k hk => by rw [show k = b' from hk]; exact hbb.1))
              have hx3 := Lib.hid ((hw3.block z (block_lt hxx.out) (fun e => hbb.2 e.symm)).trans hxx.out)
              have hz3 : Hid ((zi.set j (-7)).length = n) := Lib.hid (by rw [List.length_set]; exact hzi.out)
              clear hro hqt hxx hw3 hbb hzi hsL
              go_wp2_with fail
              go_roundw
              case rel => exact ⟨j + 1, _, by go_num, by omega, hz3, hS3, hq3, hx3⟩
              case measure => simp [RowKit.intOf]; omega
            · obtain rfl : n = j := by omega
              have hqz : Qt (fun k => k = z) w wr p y (zs ++ zl) zs := hqt.out.less (fun k hk => Or.inl hk)
              have hbw := hqz.out
              obtain ⟨v, u, hq, h1, h2, h3⟩ := hqz
              obtain ⟨su, cu, eu⟩ := hq.x.row.slice
              have c0 := hq.x.c0
              have e4 := cell_of hxx.out (j := 4) rfl
              have hyl : y < wr.heap.size := block_lt hq.x.head
              have hzl2 : z < wr.heap.size := block_lt hxx.out
              have hsX : Hid (∀ W, Below wr.heap.size wr W → Src Try.prog 1 26 u zs.length (cells zs) W) := Lib.hid fun W hb => src_of_ints (hq.x.row.ints.below hb)
              have hsL2 : Hid (∀ W, Below wr.heap.size wr W → Src Try.prog 1 26 (.slice sl n cl) zl.length (cells zl) W) := Lib.hid fun W hb => hsL.out W (hbw.trans (hb.mono hbw.size))
              have hfin : Hid (∀ (W : World) (v9 : Value), Below wr.heap.size wr W → Low wr.heap.size (fun k => v9.ownBlock = some k) → OffRow W v9 (zs ++ zl) → (∃ s m c, v9 = .slice s m c) ∧ W.cell? ⟨y, 0, none⟩ = some u ∧ W.frozen? ⟨y, 0, none⟩ = false ∧ Hid (∃ z2, Hid (z2.length ≤ 40 * k + 40) ∧ Hid (Qt (fun _ => False) w (W.setCell ⟨y, 0, none⟩ v9) p y z2 z2))) := Lib.hid fun W v9 hb hl hr => by
                obtain ⟨s, c, e⟩ := hr.slice
                have hx1 := hq.x.below hb
                refine ⟨⟨s, _, c, e⟩, hx1.c0, hx1.fz, Lib.hid ⟨zs ++ zl, Lib.hid ?_, Lib.hid ((qx_lay hq h1 h2 h3 hr (Wrote.of_made hb hl)).1.less (fun k hk => hk.elim))⟩⟩
                rw [List.length_append, hnl.out]; have := hZ.out; omega
              have hbA : ([] : List Int).length + zs.length ≤ 1000000 := by have := hZ.out; simp; omega
              have hbB := hle2.out
              clear hqt hq h1 h2 h3 hbw hxx hro hsL
              rw [eu] at c0 hsX hfin
              clear eu
              go_wp2_with fail
              go_region_law (first
                | (refine step_append_off rfl (.tmp 85) (.tmp 87) rfl rfl (off_below hrA.out (by (repeat (first | exact Below.refl _ _ | refine below_alloc ?_ _ | refine below_drewN ?_ _ | refine Below.drew ?_)))) rfl rfl (hsL2.out _ (by (repeat (first | exact hBA.out | exact Below.refl _ _ | refine below_alloc ?_ _ | refine below_drewN ?_ _ | refine Below.drew ?_)))) hbB ?_; intro v9 w9 g3 g4; have hl9 := g4.low hlA.out (Below.size (w := wr) (by (repeat (first | exact hBA.out | exact Below.refl _ _ | refine below_alloc ?_ _ | refine below_drewN ?_ _ | refine Below.drew ?_)))); have hB9 := g4.below hlA.out (by (repeat (first | exact hBA.out | exact Below.refl _ _ | refine below_alloc ?_ _ | refine below_drewN ?_ _ | refine Below.drew ?_))); have hk9 := hfin.out w9 v9 hB9 hl9 g3; obtain ⟨⟨s9, n9, c9, rfl⟩, f1, f2, hgo⟩ := hk9; clear g3 g4 hl9 hB9 hrA hlA hBA hfin)
                | (refine step_append_off rfl (.tmp 80) (.tmp 84) rfl rfl (lit_off (by first | exact lt_new _ _ | exact lt_new1 (by exact size_new wr _) | exact Nat.lt_trans (lt_new _ _) (lt_new _ _))) rfl rfl (hsX.out _ (by (repeat (first | exact Below.refl _ _ | refine below_alloc ?_ _ | refine below_drewN ?_ _ | refine Below.drew ?_)))) hbA ?_; intro vA wA g1 g2; have hk := off_one (wq := wr) (by (repeat (first | exact Below.refl _ _ | refine below_alloc ?_ _ | refine below_drewN ?_ _ | refine Below.drew ?_))) (by first | exact Nat.le_refl _ | exact Nat.le_succ _ | exact Below.size (w := wr) (by (repeat (first | exact Below.refl _ _ | refine below_alloc ?_ _ | refine below_drewN ?_ _ | refine Below.drew ?_)))) g1 g2; have hrA := Lib.hid hk.1; have hlA := Lib.hid hk.2.1; have hBA := Lib.hid hk.2.2.1; have fA4 := cell_then hBA.out e4; have fA0 := cell_then hBA.out c0; clear hk g1 g2))
              all_goals
                go_wp2_with fail
                go_meet
                exact hgo.out
        · skip
          have hle : zs.length ≤ 1000000 := by have := hZ.out; omega
          have hS : Hid (∀ W', Kp (fun k => k = z) w3 W' → W'.cell? ⟨z, 1, none⟩ = some (.int .i64 P) ∧ W'.cell? ⟨z, 2, none⟩ = some (.int .i64 M)) := Lib.hid fun W' hk => ⟨cell_of (hk.block rfl hx.out) rfl, cell_of (hk.block rfl hx.out) rfl⟩
          have hP1 : Hid (∀ V, Below w3.heap.size w3 V → Calls Try.prog 32 #[.pointer (some ⟨p, 0, none⟩), .int .i64 P, .int .i64 M] V fun e wz => ∃ r, e = .returned r ∧ (wz.cell? ⟨z, 1, none⟩ = some (.int .i64 P) ∧ wz.cell? ⟨z, 2, none⟩ = some (.int .i64 M)) ∧ Hid (∀ V', Below wz.heap.size wz V' → Calls Try.prog 33 #[.pointer (some ⟨y, 0, none⟩), .int .i64 P, .int .i64 M] V' fun e wy => ∃ r2, e = .returned r2 ∧ (wy.cell? ⟨z, 1, none⟩ = some (.int .i64 P) ∧ wy.cell? ⟨z, 2, none⟩ = some (.int .i64 M)) ∧ Hid (∀ V2, Below wy.heap.size wy V2 → Calls Try.prog 16 #[r, r2] V2 fun e wx => e = .returned (.bool true) ∧ Below V2.heap.size V2 wx ∧ Hid (∃ z2, Hid (z2.length ≤ 40 * k + 40) ∧ Hid (Qt (fun _ => False) w wx p y z2 z2))))) := Lib.hid fun V hb => (qt_get (hR2.out.below hb) hP hM hle).mono fun e wz ⟨r, he, hq, hk, hi⟩ => ⟨r, he, hS.out wz ((kp_below hb).trans hk), Lib.hid fun V' hb' => (qx_get (hq.below hb') hP hM hle).mono fun e wy ⟨r2, he2, hq2, hk2, hi2⟩ => ⟨r2, he2, hS.out wy ((((kp_below hb).trans hk).trans (kp_below hb')).trans (kp_less hk2 (fun k hk => Or.inl hk))), Lib.hid fun V2 hb2 => (ints_any ((hk2.ints (hi.below hb') (fun k hk => Or.inr hk)).below hb2) (hi2.below hb2)).mono fun e wx ha => by
            obtain ⟨ea, hba⟩ := ha.below
            refine ⟨ea, hba, Lib.hid ⟨_, Lib.hid ?_, Lib.hid (((hq2.below hb2).below hba).less (fun k hk => hk.elim))⟩⟩
            rw [List.length_drop]; have := hZ.out; omega⟩⟩
          have c1 := cell_of hx.out (j := 1) rfl
          have c2 := cell_of hx.out (j := 2) rfl
          clear hR2 hZ hx hcells hil2 hS hle
          have hbd : Below w3.heap.size w3 w3.drew := (Below.refl _ _).drew
          go_wp2_with fail
          go_region_held3 (fun W' => W'.cell? ⟨z, 1, none⟩ = some (.int .i64 P) ∧ W'.cell? ⟨z, 2, none⟩ = some (.int .i64 M)) (first | exact ⟨c1, c2⟩ | go_keep | assumption | (go_split_ands; exact ⟨cell_then (by assumption) (by assumption), cell_then (by assumption) (by assumption)⟩)) (first | (go_at_call 16; ((with_reducible refine (hP3.out _ (by repeat (first | assumption | exact Below.refl _ _ | refine below_drewN ?_ _ | refine below_alloc ?_ _ | refine below_then ?_ (by assumption)))).mono ?_); rintro e wx ⟨rfl, hbx, hEnd⟩)) | (go_at_call 33; ((with_reducible refine (hP2.out _ (by repeat (first | assumption | exact Below.refl _ _ | refine below_drewN ?_ _ | refine below_alloc ?_ _ | refine below_then ?_ (by assumption)))).mono ?_); rintro e wy ⟨r2, rfl, hky, hP3⟩)) | (go_at_call 32; ((with_reducible refine (hP1.out _ (by repeat (first | assumption | exact Below.refl _ _ | refine below_drewN ?_ _ | refine below_alloc ?_ _ | refine below_then ?_ (by assumption)))).mono ?_); rintro e wz ⟨r, rfl, hkz, hP2⟩)))
          all_goals
            go_wp2_with fail
            go_meet
            exact hEnd.out
        · skip
          have hle : zs.length ≤ 1000000 := by have := hZ.out; omega
          have hS : Hid (∀ W', Kp (fun k => k = z) w3 W' → W'.cell? ⟨z, 1, none⟩ = some (.int .i64 P) ∧ W'.cell? ⟨z, 2, none⟩ = some (.int .i64 M)) := Lib.hid fun W' hk => ⟨cell_of (hk.block rfl hx.out) rfl, cell_of (hk.block rfl hx.out) rfl⟩
          have hP1 : Hid (∀ V, Below w3.heap.size w3 V → Calls Try.prog 32 #[.pointer (some ⟨p, 0, none⟩), .int .i64 P, .int .i64 M] V fun e wz => ∃ r, e = .returned r ∧ (wz.cell? ⟨z, 1, none⟩ = some (.int .i64 P) ∧ wz.cell? ⟨z, 2, none⟩ = some (.int .i64 M)) ∧ Hid (∀ V', Below wz.heap.size wz V' → Calls Try.prog 33 #[.pointer (some ⟨y, 0, none⟩), .int .i64 P, .int .i64 M] V' fun e wy => ∃ r2, e = .returned r2 ∧ (wy.cell? ⟨z, 1, none⟩ = some (.int .i64 P) ∧ wy.cell? ⟨z, 2, none⟩ = some (.int .i64 M)) ∧ Hid (∀ V2, Below wy.heap.size wy V2 → Calls Try.prog 16 #[r, r2] V2 fun e wx => e = .returned (.bool true) ∧ Below V2.heap.size V2 wx ∧ Hid (∃ z2, Hid (z2.length ≤ 40 * k + 40) ∧ Hid (Qt (fun _ => False) w wx p y z2 z2))))) := Lib.hid fun V hb => (qt_get (hR2.out.below hb) hP hM hle).mono fun e wz ⟨r, he, hq, hk, hi⟩ => ⟨r, he, hS.out wz ((kp_below hb).trans hk), Lib.hid fun V' hb' => (qx_get (hq.below hb') hP hM hle).mono fun e wy ⟨r2, he2, hq2, hk2, hi2⟩ => ⟨r2, he2, hS.out wy ((((kp_below hb).trans hk).trans (kp_below hb')).trans (kp_less hk2 (fun k hk => Or.inl hk))), Lib.hid fun V2 hb2 => (ints_any ((hk2.ints (hi.below hb') (fun k hk => Or.inr hk)).below hb2) (hi2.below hb2)).mono fun e wx ha => by
            obtain ⟨ea, hba⟩ := ha.below
            refine ⟨ea, hba, Lib.hid ⟨_, Lib.hid ?_, Lib.hid (((hq2.below hb2).below hba).less (fun k hk => hk.elim))⟩⟩
            rw [List.length_drop]; have := hZ.out; omega⟩⟩
          have c1 := cell_of hx.out (j := 1) rfl
          have c2 := cell_of hx.out (j := 2) rfl
          clear hR2 hZ hx hcells hil2 hS hle
          have hbd : Below w3.heap.size w3 w3.drew := (Below.refl _ _).drew
          go_wp2_with fail
          go_region_held3 (fun W' => W'.cell? ⟨z, 1, none⟩ = some (.int .i64 P) ∧ W'.cell? ⟨z, 2, none⟩ = some (.int .i64 M)) (first | exact ⟨c1, c2⟩ | go_keep | assumption | (go_split_ands; exact ⟨cell_then (by assumption) (by assumption), cell_then (by assumption) (by assumption)⟩)) (first | (go_at_call 16; ((with_reducible refine (hP3.out _ (by repeat (first | assumption | exact Below.refl _ _ | refine below_drewN ?_ _ | refine below_alloc ?_ _ | refine below_then ?_ (by assumption)))).mono ?_); rintro e wx ⟨rfl, hbx, hEnd⟩)) | (go_at_call 33; ((with_reducible refine (hP2.out _ (by repeat (first | assumption | exact Below.refl _ _ | refine below_drewN ?_ _ | refine below_alloc ?_ _ | refine below_then ?_ (by assumption)))).mono ?_); rintro e wy ⟨r2, rfl, hky, hP3⟩)) | (go_at_call 32; ((with_reducible refine (hP1.out _ (by repeat (first | assumption | exact Below.refl _ _ | refine below_drewN ?_ _ | refine below_alloc ?_ _ | refine below_then ?_ (by assumption)))).mono ?_); rintro e wz ⟨r, rfl, hkz, hP2⟩)))
          all_goals
            go_wp2_with fail
            go_meet
            exact hEnd.out
        · skip
          obtain ⟨v, u, hq, h1, h2, h3⟩ := hR2.out
          have hle : zs.length ≤ 500000 := by have := hZ.out; omega
          have hS : Hid (∀ W', Kp (fun k => k = z) w3 W' → W'.cell? ⟨z, 3, none⟩ = some (.int .i64 G)) := Lib.hid fun W' hk => cell_of (hk.block rfl hx.out) rfl
          have c0 := hq.x.c0
          have cO : Hid (∀ V, Below w3.heap.size w3 V → Calls Try.prog 34 #[u, .int .i64 G] V fun e W1 => ∃ s1 c1, e = .returned (.tuple #[.slice s1 (zs.erase G).length c1, .bool (decide (G ∈ zs))]) ∧ (W1.cell? ⟨y, 0, none⟩ = some u ∧ W1.cell? ⟨z, 3, none⟩ = some (.int .i64 G)) ∧ Hid (W1.frozen? ⟨y, 0, none⟩ = false ∧ Hid (∀ W2, W2 = W1.setCell ⟨y, 0, none⟩ (.slice s1 (zs.erase G).length c1) → W2.cell? ⟨z, 3, none⟩ = some (.int .i64 G) ∧ Hid (Calls Try.prog 35 #[.pointer (some ⟨p, 0, none⟩), .int .i64 G] W2 fun e wx => e = .returned (.bool (decide (G ∈ zs))) ∧ Hid (∃ z2, Hid (z2.length ≤ 40 * k + 40) ∧ Hid (Qt (fun _ => False) w wx p y z2 z2)))))) := Lib.hid fun V hb => (qx_out (hq.below hb) h1 h2 (fun k hk => Nat.lt_of_lt_of_le (h3 k hk) hb.size) G hle).mono fun e W1 ⟨s1, c1, he, hu0, hf, hk, hend⟩ => ⟨s1, c1, he, ⟨hu0, hS.out W1 ((kp_below hb).trans hk)⟩, Lib.hid ⟨hf, Lib.hid fun W2 e2 => by
            subst e2
            refine ⟨hS.out _ ((kp_below hb).trans hend.out.2), Lib.hid ((qt_del hend.out.1 G (by omega)).mono fun e wx ⟨he3, hq3, _⟩ => ⟨he3, Lib.hid ⟨zs.erase G, Lib.hid ?_, Lib.hid (hq3.less (fun k hk => hk.elim))⟩⟩)⟩
            have := hZ.out
            have := List.length_erase_le (a := G) (l := zs)
            omega⟩⟩
          have c3 := cell_of hx.out (j := 3) rfl
          clear hR2 hZ hx hcells hil2 hS hle hq h1 h2 h3
          have hbd : Below w3.heap.size w3 w3.drew := (Below.refl _ _).drew
          generalize decide (G ∈ zs) = bb at *
          generalize (zs.erase G).length = el at *
          have hbb : (bb != bb) = false := by cases bb <;> rfl
          go_wp2_with fail
          go_region_held3 (fun W' => W'.cell? ⟨y, 0, none⟩ = some u ∧ W'.cell? ⟨z, 3, none⟩ = some (.int .i64 G)) (first | exact ⟨c0, c3⟩ | go_keep | assumption | (go_split_ands; exact ⟨cell_then (by assumption) (by assumption), cell_then (by assumption) (by assumption)⟩)) (first | (go_at_call 34; ((with_reducible refine (cO.out _ (by repeat (first | assumption | exact Below.refl _ _ | refine below_drewN ?_ _ | refine below_alloc ?_ _ | refine below_then ?_ (by assumption)))).mono ?_); rintro e W1 ⟨s1, c1, rfl, hk1, hE⟩)))
          all_goals
            obtain ⟨hf, hE2⟩ := hE.out
            obtain ⟨hc1, _⟩ := hk1
            obtain ⟨hz3, hD⟩ := hE2.out _ rfl
            go_wp2_with fail
            with_reducible refine Calls.mono hD.out ?_
            rintro e wx ⟨rfl, hEnd⟩
            go_wp2_with fail
            go_meet
            exact hEnd.out
      case rest =>
        obtain ⟨z2, hZ2, hR3⟩ := hcut
        obtain ⟨v, u, hq, _, _, _⟩ := hR3.out
        obtain ⟨su, cu, eu⟩ := hq.x.row.slice
        subst eu
        have c0 := hq.x.c0
        have hle : z2.length ≤ 1000000 := by have := hZ2.out; omega
        have cL : Hid (∀ W', Qx w W' p y v (.slice su z2.length cu) z2 z2 → Calls Try.prog 36 #[.pointer (some ⟨p, 0, none⟩)] W' (Still (.int .i64 z2.length) W')) := Lib.hid fun W' h => Qu.len_any W' h.q
        have cA : Hid (∀ W', Qx w W' p y v (.slice su z2.length cu) z2 z2 → Calls Try.prog 37 #[.pointer (some ⟨p, 0, none⟩)] W' fun e w2 => ∃ r, e = .returned r ∧ Below W'.heap.size W' w2 ∧ Ints w2 (fun _ => True) r z2) := Lib.hid fun W' h => (Qu.all_any W' h.q hle).mono fun _ _ ⟨r, he, hb, ho⟩ => ⟨r, he, hb, (ints_of_owns ho).wider (fun _ _ _ => trivial)⟩
        have cI : Hid (∀ W' r, Ints W' (fun _ => True) r z2 → Qx w W' p y v (.slice su z2.length cu) z2 z2 → Calls Try.prog 16 #[r, .slice su z2.length cu] W' (AnsB (.bool true) W')) := Lib.hid fun W' r hr h => (ints_any hr h.x.row.ints).mono fun _ _ ha => ha.below
        have hkk : Hid (∀ W', Qx w W' p y v (.slice su z2.length cu) z2 z2 → ∃ (k' : Nat) (zs : List Int), (.int .i64 ((k : Int) + 1) : Value) = .int .i64 k' ∧ k' ≤ l ∧ k' ≤ 60 ∧ Hid (zs.length ≤ 40 * k') ∧ Hid (Qt (fun _ => False) w W' p y zs zs)) := Lib.hid fun W' h => ⟨k + 1, z2, rfl, by omega, by omega, Lib.hid (by have := hZ2.out; omega), Lib.hid ⟨_, _, h, fun _ h => h.elim, fun _ h => h.elim, fun _ h => h.elim⟩⟩
        have hsd : Qx w wc.drew p y v (.slice su z2.length cu) z2 z2 := hq.below (Below.refl _ _).drew
        clear hq hZ2 hR3 hle hZ hR2 hx hcells hil2 hlow d0 d1 d2 d3 d4 d9 e4
        generalize z2.length = m at *
        go_wp2_with fail
        go_region_held3 (fun W' => Qx w W' p y v (.slice su m cu) z2 z2 ∧ W'.cell? ⟨y, 0, none⟩ = some (.slice su m cu)) (first | exact ⟨hsd, c0⟩ | assumption | (go_split_ands; exact ⟨Qx.below (by assumption) (by assumption), cell_then (by assumption) (by assumption)⟩)) (first | (go_at_call 36; ((with_reducible refine (cL.out _ (by exact (by assumption : _ ∧ _).1)).mono ?_); rintro e w' ⟨rfl, rfl⟩)) | (go_at_call 37; ((with_reducible refine (cA.out _ (by exact (by assumption : _ ∧ _).1)).mono ?_); rintro e wA ⟨v', rfl, hb, hv⟩)) | (go_at_call 16; ((with_reducible refine (cI.out _ _ (by assumption) (by exact (by assumption : _ ∧ _).1)).mono ?_); rintro e w' ⟨rfl, hb⟩)))
        all_goals
          have hE := Lib.hid (hkk.out _ (by exact (by assumption : _ ∧ _).1))
          go_wp2_with fail
          go_roundw
          case rel => exact hE.out
          case measure => simp [RowKit.intOf]; omega
    · have hb0 := hR.out.out
      clear hcells hR
      by_cases hkl : k < l
      · have i2 : (k : Int) < (l : Int) := by omega
        have i3 : ¬ (k : Int) < 60 := by omega
        go_wp2_with fail
        with_reducible refine Calls.mono (Qu.told_any _) ?_
        rintro e w4 ⟨rfl, hb4⟩
        go_wp2_with fail
        go_ret
        exact ⟨rfl, hb0.trans (hb4.mono hb0.size)⟩
      · have i2 : ¬ (k : Int) < (l : Int) := by omega
        go_wp2_with fail
        with_reducible refine Calls.mono (Qu.told_any _) ?_
        rintro e w4 ⟨rfl, hb4⟩
        go_wp2_with fail
        go_ret
        exact ⟨rfl, hb0.trans (hb4.mono hb0.size)⟩

set_option maxRecDepth 100000 in
theorem lifted (os : Os) (started : os.Started) (H : Type) (enc : TypeId × Value → H) :
    ReturnsInHanded {} Try.checked os 4 .any (Rows.queuePlaysSpec.pre6 enc Try.prog Try.f4 Rows.queuePlaysRow.domain false) (Rows.queuePlaysSpec.post enc Try.prog Try.f4 false true false false) := by
  refine returnsInHanded_of_change (C := Try.checked) own started (by kernel_rfl) Try.func4
    (ChangeSpec.witness6 (enc := enc) (C := Try.checked) false ⟨#[], #[.slice none 0 0], []⟩ 8 (by kernel_rfl) (by kernel_rfl) (by kernel_rfl) (by kernel_rfl)) ?_
  intro W base args ds gs before hval0 hW hcnd _
  have hval : ∀ (j : Nat) t v, Try.f4.params[j]? = some t → args[j]? = some v → Value.okWide Try.prog W .any base t v := hval0
  have hW' := hW
  obtain ⟨p, q, hA0, hV, rfl, hfz, hnd⟩ := hW
  have hA : DataW.TrodAll enc Try.prog W 0 (fun _ => true) true Try.f4.params.toList args.toList ds p := hA0
  rw [Try.params4] at hA hval
  obtain ⟨v0, vs0, d0, ds0, p0, q0, hargs, rfl, rfl, h0, r0⟩ := trodAll_cons hA
  obtain ⟨rfl, rfl, rfl⟩ := trodAll_nil r0
  obtain rfl : args = #[v0] := by cases args; simp_all
  obtain ⟨rfl, rfl⟩ := trodVars_none hV
  obtain ⟨zb0, i0⟩ := op11_arg (hval 0 43 v0 rfl rfl) h0
  clear hA0 hval0
  simp only [List.append_nil] at hW'
  have lt0 : ∀ x ∈ p0, x.block < W.heap.size := fun x hx => by have := hW'.lt x (by simp [hx]); simpa using this
  refine (walk v0 zb0 W i0).mono fun e W' ⟨he, hg⟩ => ?_
  subst he
  exact ⟨_, rfl, post_of_kept (pa := _) (pv := []) hW' (fun _ _ _ => (trodAll_cons_mk (shut_bool Try.underlying4 _) trodAll_mk0)) (trodAll_cons_mk (Below.trod laidOut (by kernel_rfl) (of_decide_eq_true (by kernel_rfl)) h0 hg lt0) trodAll_mk0) (fun _ _ => rfl) (by simp) hg⟩

theorem over : Rows.queuePlaysRow.holds Try.pinned (OpenSpec.ofChange Rows.queuePlaysSpec) :=
  OpenClaim.holds_of_wide 4 Try.f4 rfl rfl rfl rfl rfl rfl rfl ⟨rfl, rfl, rfl, rfl, rfl⟩ rfl rfl rfl rfl rfl (by kernel_rfl) Try.func4 (by kernel_rfl)
    (of_decide_eq_true (by kernel_rfl)) (by unfold Func.isWrapper; first | (rw [if_pos (by decide +kernel)]; kernel_rfl) | (rw [if_neg (by decide +kernel)]; exact ⟨rfl, rfl⟩))
    (fun os started H enc _ => lifted os started H enc)

theorem proved : Rows.QueuePlaysSaid :=
  over
#print axioms proved
end Go.Proofs.Ytclldajbibhcbaa.queuePlays
