import Derived.Test.YtdnajpnnjfncbaaDoorMB4
import Derived.Test.YtdnajpnnjfncbaaDoorBools
import Derived.Test.YtdnajpnnjfncbaaDoorMA4
import Derived.WalkKit
import Derived.ProofKit
import Derived.OpenShut
import Derived.Test.YtdnajpnnjfncbaaDoorTie
import Derived.Test.YtdnajpnnjfncbaaDoorCards
import Derived.LaidMore
import Derived.Stop.Joined
import Derived.SevenTiedAt
import Derived.Deep.RegionHeld3
import Derived.Deep.RegionWith
import Derived.Deep.Cut
import Derived.Deep.CutBlock
import Derived.Deep.CutRange
import Derived.Deep.LoopGhost
import Derived.Deep.DeepCutAuto
import Derived.RegionTactic
import Derived.StillTailTactics
import Derived.Deep.RegionLaw
/- Two models of one program do not see one another: what the first goroutine of each tells is the same, whichever goes first (16.1): any program that may be, any turns (at most 200). No further condition but the listed table. -/
namespace Go.Proofs.YtdnajpnnjfncbaaDoor.modelAlone
open Go.ChangeShapes Go.WideShapes Go.ChangeAt Go.WideElems Go.RowKit Go.Lib Fx Ho Gr Cd
set_option linter.unusedVariables false

theorem own : ownKnob Tryd.prog.godebug = none := by kernel_rfl

set_option maxRecDepth 100000 in
set_option maxHeartbeats 4000000 in
theorem walk (g0 : Int) (v0 : Value) (fs0 : List (List Ins)) (v1 : Value) (zb1 : List Bool) (w : World) (hT : Tk w) (h0 : FRow w v0 fs0) (h1 : Rw.BoolsArg w v1 zb1) :
    Calls Tryd.prog 10 #[.agg #[.int .i64 g0, v0], v1] w fun e w' => e = .returned (.bool true) ∧ Below w.heap.size w w' := by
  obtain ⟨sp, cap, rfl, -⟩ := h0.fix
  obtain ⟨sb, cb, rfl, hlb, hbat⟩ := h1
  have hbU : Hid (Below w.heap.size w (w.alloc (.cells #[.int .i64 g0, .slice sp fs0.length cap] 49))) := Lib.hid (below_alloc (Below.refl _ _) _)
  have hC := heap_alloc_new w (.cells #[.int .i64 g0, .slice sp fs0.length cap] 49)
  have c0 : (w.alloc (.cells #[.int .i64 g0, .slice sp fs0.length cap] 49)).cell? ⟨w.heap.size, 0, none⟩ = some (.int .i64 g0) := cell_of hC rfl
  have c1 : (w.alloc (.cells #[.int .i64 g0, .slice sp fs0.length cap] 49)).cell? ⟨w.heap.size, 1, none⟩ = some (.slice sp fs0.length cap) := cell_of hC rfl
  have cg := great_any (h0.below hbU.out) g0
  have hall : Hid (∀ V, Below w.heap.size w V → Tk V ∧ FRow V (.slice sp fs0.length cap) fs0) := Lib.hid fun V hV => ⟨hT.below hV, h0.below hV⟩
  obtain ⟨nb, hnb⟩ : ∃ n, zb1.length = n := ⟨_, rfl⟩
  have hbs : Hid (∀ V, Below w.heap.size w V → ∀ i, i < nb → ∃ b off, sb = some ⟨b, off, none⟩ ∧ V.cell? ⟨b, off + i, none⟩ = some (.bool (zb1.getD i false))) := Lib.hid fun V hV i hi => by
    obtain ⟨b, off, e, _, hc⟩ := hbat i (by omega)
    exact ⟨b, off, e, cell_then hV hc⟩
  rw [hnb] at hlb ⊢
  clear h0 hT hbat hnb
  obtain ⟨N, hN⟩ : ∃ N, w.heap.size = N := ⟨_, rfl⟩
  rw [hN] at c0 c1
  generalize fs0.length = m at *
  go_enter Tryd.func10, Tryd.ntmps10
  go_wp2_with fail
  obtain ⟨U, hU⟩ : ∃ U, w.alloc (.cells #[.int .i64 g0, .slice sp m cap] 49) = U := ⟨_, rfl⟩
  rw [hU] at hbU c0 c1 cg ⊢
  clear hU hC
  with_reducible refine Calls.mono cg ?_
  rintro e w1 ⟨rfl | rfl, hb1⟩
  · have hbw := Lib.hid (hbU.out.trans (hb1.mono hbU.out.size))
    clear cg c0 c1 hb1 hbU
    have ct := Md.told_any (hall.out w1 hbw.out).1
    clear hall hbs
    go_wp2_with fail
    with_reducible refine Calls.mono ct ?_
    rintro e wz ⟨rfl, hbz⟩
    have hfin := Lib.hid (hbw.out.trans (hbz.mono hbw.out.size))
    clear ct hbz hbw
    go_wp2_with fail
    go_ret
    exact ⟨rfl, hfin.out⟩
  · have hbw := Lib.hid (hbU.out.trans (hb1.mono hbU.out.size))
    have c0 := cell_then hb1 c0
    have c1 := cell_then hb1 c1
    have cm := refmay_any (hall.out w1 hbw.out).2 g0
    clear cg hb1 hbU
    go_wp2_with fail
    with_reducible refine Calls.mono cm ?_
    rintro e w2 ⟨r, rfl, hr, hb2⟩
    have c0 := cell_then hb2 c0
    have c1 := cell_then hb2 c1
    have hbw2 := Lib.hid (hbw.out.trans (hb2.mono hbw.out.size))
    clear cm hb2
    replace hbw := hbw2
    clear hbw2
    by_cases hr0 : r = 0
    case neg =>
      have e0 : (r != 0) = true := by simp [hr0]
      have e1 : decide (r = 0) = false := decide_eq_false hr0
      have e2 : (r == 0) = false := beq_eq_false_iff_ne.2 hr0
      clear hr
      have ct := Md.told_any (hall.out w2 hbw.out).1
      clear hall hbs
      go_wp2_with fail
      with_reducible refine Calls.mono ct ?_
      rintro e wz ⟨rfl, hbz⟩
      have hfin := Lib.hid (hbw.out.trans (hbz.mono hbw.out.size))
      clear ct hbz hbw
      go_wp2_with fail
      go_ret
      exact ⟨rfl, hfin.out⟩
    case pos =>
      subst hr0
      obtain ⟨G, rfl⟩ : ∃ G : Nat, g0 = (G : Int) := by
        rcases hr with ⟨_, e⟩ | ⟨h1, _⟩ | ⟨_, i, j, _, _, _, _, _, e⟩
        · exact absurd e (by decide)
        · exact ⟨g0.toNat, by have := h1.2.2.1; omega⟩
        · omega
      have hP := Lib.hid (Md.pg_of hr)
      by_cases hn : (200 : Int) < (nb : Int)
      · have hn' : decide ((200 : Int) < (nb : Int)) = true := decide_eq_true hn
        clear hr
        have ct := Md.told_any (hall.out w2 hbw.out).1
        clear hall hbs
        go_wp2_with fail
        with_reducible refine Calls.mono ct ?_
        rintro e wz ⟨rfl, hbz⟩
        have hfin := Lib.hid (hbw.out.trans (hbz.mono hbw.out.size))
        clear ct hbz hbw
        go_wp2_with fail
        go_ret
        exact ⟨rfl, hfin.out⟩
      · have hn' : decide ((200 : Int) < (nb : Int)) = false := decide_eq_false hn
        have hn2 : nb ≤ 200 := by omega
        have cn := Md.ms_new (hall.out w2 hbw.out).1 (hall.out w2 hbw.out).2 hr
        replace hr := Lib.hid hr
        go_wp2_with fail
        with_reducible refine Calls.mono cn ?_
        rintro e w3 ⟨pa, rfl, hma⟩
        have hb3 := hma.bel
        have c0 := cell_then hb3 c0
        have c1 := cell_then hb3 c1
        have hbw3 := Lib.hid (hbw.out.trans (hb3.mono hbw.out.size))
        have cn := Md.ms_new (hall.out w3 hbw3.out).1 (hall.out w3 hbw3.out).2 hr.out
        replace hma := Lib.hid hma
        clear hb3
        go_wp2_with fail
        with_reducible refine Calls.mono cn ?_
        rintro e w4 ⟨pb, rfl, hmb⟩
        have hpr := Md.pr_of hma.out hmb
        have hal : Hid (Md.Al w2 w4 fs0 G pa pb 0 0 (.slice none 0 0) (.slice none 0 0) 0) := Lib.hid ⟨hpr.wrote (H := fun _ => False) (H' := fun _ => False) (Wrote.of_below (Below.refl _ _)) (fun k h => h) (fun k hk => by rcases hk with e | e <;> cases e) (fun k h => h.elim), fun j hj => (by omega), fun j hj => (by omega), Nat.le_refl _, Nat.le_refl _, grow_nil _ _, grow_nil _ _, fun k hk => by cases hk⟩
        clear cn hma hmb hpr c0 c1 hbw3 hr
        go_wp2_with fail
        go_loopw [9, 10, 11] (fun u9 u10 u wr => ∃ (k ia ib : Nat) (sx : Option Addr) (cx : Nat) (sy : Option Addr) (cy : Nat), u9 = .slice sx ia cx ∧ u10 = .slice sy ib cy ∧ u = .int .i64 k ∧ k ≤ nb ∧ Hid (Md.Al w2 wr fs0 G pa pb ia ib (.slice sx ia cx) (.slice sy ib cy) k)) (fun _ _ u _ => (nb - (RowKit.intOf u).toNat))
        case atStart => exact ⟨0, 0, 0, none, 0, none, 0, rfl, rfl, rfl, by omega, hal⟩
        case round =>
          obtain ⟨k, ia, ib, sx, cx, sy, cy, rfl, rfl, rfl, hkn, hal2⟩ := hrel
          clear hal
          have hbr : Below w.heap.size w wr := hbw.out.trans (hal2.out.pr.bel.mono hbw.out.size)
          by_cases hlt : k < nb
          · obtain ⟨b, off, rfl, cz⟩ := hbs.out wr hbr k hlt
            have i2 : (k : Int) < (nb : Int) := by omega
            have i0 : (0 : Int) ≤ (k : Int) := by omega
            clear hbr
            cases hz : zb1.getD k false with
            | true =>
              rw [hz] at cz
              have cd := Md.al_do hal2.out hP.out (by omega)
              go_wp2_with fail
              with_reducible refine Calls.mono cd ?_
              rintro e w5 (⟨er, her, rfl, hal4⟩ | ⟨f, pc, op, v, ft, hcc, rfl, hrun, hpr, hgx, hgy⟩)
              · have e1 : decide (er = 0) = false := decide_eq_false her
                have e2 : (er == 0) = false := beq_eq_false_iff_ne.2 her
                have hnx : Hid (∀ W, Below w5.heap.size w5 W → Md.Al w2 W fs0 G pa pb ia ib (.slice sx ia cx) (.slice sy ib cy) (k + 1)) := Lib.hid fun W hW => ((hal4).below hW).late
                clear cd hal4 hal2 cz hz
                go_wp2_with fail
                go_roundw
                case rel => exact ⟨k + 1, ia, ib, sx, cx, sy, cy, rfl, rfl, by go_num, by omega, Lib.hid (hnx.out _ (below_alloc (Below.refl _ _) _))⟩
                case measure => simp [RowKit.intOf]; omega
              · have hbA := below_alloc (Below.refl w5.heap.size w5) (.cells #[.int .i64 0, .int .i64 f, .int .i64 pc, .int .i64 op, .int .i64 v, .bool ft] 24)
                have kA := heap_alloc_new w5 (.cells #[.int .i64 0, .int .i64 f, .int .i64 pc, .int .i64 op, .int .i64 v, .bool ft] 24)
                obtain ⟨W5, hW5⟩ : ∃ W, w5.alloc (.cells #[.int .i64 0, .int .i64 f, .int .i64 pc, .int .i64 op, .int .i64 v, .bool ft] 24) = W := ⟨_, rfl⟩
                rw [hW5] at hbA kA
                have hbB := below_alloc hbA (.cells #[.int .i64 0, .int .i64 f, .int .i64 pc, .int .i64 op, .int .i64 v, .bool ft] 24)
                have hrow : Hid (GRow 6 (W5.alloc (.cells #[.int .i64 0, .int .i64 f, .int .i64 pc, .int .i64 op, .int .i64 v, .bool ft] 24)) (.slice sx ia cx) ia (Md.xs fs0 G ia)) := Lib.hid (hgx.below hbB)
                have hsrc : Hid (Src Tryd.prog 6 55 (.slice (some ⟨W5.heap.size, 0, none⟩) 1 1) 1 [.int .i64 0, .int .i64 f, .int .i64 pc, .int .i64 op, .int .i64 v, .bool ft] (W5.alloc (.cells #[.int .i64 0, .int .i64 f, .int .i64 pc, .int .i64 op, .int .i64 v, .bool ft] 24))) := Lib.hid (src_new (s := 6) (A := #[.int .i64 0, .int .i64 f, .int .i64 pc, .int .i64 op, .int .i64 v, .bool ft]) Tryd.underlying55 rfl (fun u hu => by simp at hu; rcases hu with rfl | rfl | rfl | rfl | rfl | rfl <;> rfl) (heap_alloc_new _ _))
                have hbd : ia + 1 ≤ 1000000 := by have := hal2.out.ka; have := hal2.out.kb; omega
                have key : Hid (∀ u8 w8, GRow 6 w8 u8 (ia + 1) (Md.xs fs0 G ia ++ [.int .i64 0, .int .i64 f, .int .i64 pc, .int .i64 op, .int .i64 v, .bool ft]) → Wrote (fun k => (Value.slice sx ia cx).ownBlock = some k) (W5.alloc (.cells #[.int .i64 0, .int .i64 f, .int .i64 pc, .int .i64 op, .int .i64 v, .bool ft] 24)) (fun k => u8.ownBlock = some k) w8 → ∃ s c, u8 = .slice s (ia + 1) c ∧ Hid (Md.Al w2 w8 fs0 G pa pb (ia + 1) ib (.slice s (ia + 1) c) (.slice sy ib cy) (k + 1))) := Lib.hid fun u8 w8 g1 g2 => by
                  obtain ⟨s, c, rfl⟩ := g1.slice
                  exact ⟨s, c, rfl, Lib.hid ((hal2.out.put hrun hpr hgy hgx hbB (by rw [hcc]; exact g1) g2))⟩
                have b0 := cell_of kA (j := 0) rfl
                have b1 := cell_of kA (j := 1) rfl
                have b2 := cell_of kA (j := 2) rfl
                have b3 := cell_of kA (j := 3) rfl
                have b4 := cell_of kA (j := 4) rfl
                have b5 := cell_of kA (j := 5) rfl
                clear cd hcc hrun hpr hgx hgy hal2 cz hz kA hbA hbB
                go_upto_region 14 with fail
                try rw [hW5]
                obtain ⟨NA, hNA⟩ : ∃ N, w5.heap.size = N := ⟨_, rfl⟩
                rw [hNA] at b0 b1 b2 b3 b4 b5
                try rw [hNA]
                clear hW5 hNA
                generalize Md.xs fs0 G ia = XX at *
                go_wp2_with (at_builtin; refine wpList_append_g rfl (.tmp 71) (.tmp 73) rfl rfl Md.elt6 hrow.out rfl rfl hsrc.out hbd ?_; intro u8 w8 g1 g2; have hk := key.out u8 w8 g1 g2; obtain ⟨s9, c9, rfl, hnx⟩ := hk; clear key g1 g2 hrow hsrc)
                go_roundw
                case rel => exact ⟨k + 1, ia + 1, ib, s9, c9, sy, cy, rfl, rfl, by go_num, by omega, hnx⟩
                case measure => simp [RowKit.intOf]; omega
            | false =>
              rw [hz] at cz
              have cd := Md.al_do hal2.out.swap hP.out (by omega)
              go_wp2_with fail
              with_reducible refine Calls.mono cd ?_
              rintro e w5 (⟨er, her, rfl, hal4⟩ | ⟨f, pc, op, v, ft, hcc, rfl, hrun, hpr, hgx, hgy⟩)
              · have e1 : decide (er = 0) = false := decide_eq_false her
                have e2 : (er == 0) = false := beq_eq_false_iff_ne.2 her
                have hnx : Hid (∀ W, Below w5.heap.size w5 W → Md.Al w2 W fs0 G pa pb ia ib (.slice sx ia cx) (.slice sy ib cy) (k + 1)) := Lib.hid fun W hW => ((hal4.swap).below hW).late
                clear cd hal4 hal2 cz hz
                go_wp2_with fail
                go_roundw
                case rel => exact ⟨k + 1, ia, ib, sx, cx, sy, cy, rfl, rfl, by go_num, by omega, Lib.hid (hnx.out _ (below_alloc (Below.refl _ _) _))⟩
                case measure => simp [RowKit.intOf]; omega
              · have hbA := below_alloc (Below.refl w5.heap.size w5) (.cells #[.int .i64 0, .int .i64 f, .int .i64 pc, .int .i64 op, .int .i64 v, .bool ft] 24)
                have kA := heap_alloc_new w5 (.cells #[.int .i64 0, .int .i64 f, .int .i64 pc, .int .i64 op, .int .i64 v, .bool ft] 24)
                obtain ⟨W5, hW5⟩ : ∃ W, w5.alloc (.cells #[.int .i64 0, .int .i64 f, .int .i64 pc, .int .i64 op, .int .i64 v, .bool ft] 24) = W := ⟨_, rfl⟩
                rw [hW5] at hbA kA
                have hbB := below_alloc hbA (.cells #[.int .i64 0, .int .i64 f, .int .i64 pc, .int .i64 op, .int .i64 v, .bool ft] 24)
                have hrow : Hid (GRow 6 (W5.alloc (.cells #[.int .i64 0, .int .i64 f, .int .i64 pc, .int .i64 op, .int .i64 v, .bool ft] 24)) (.slice sy ib cy) ib (Md.xs fs0 G ib)) := Lib.hid (hgx.below hbB)
                have hsrc : Hid (Src Tryd.prog 6 55 (.slice (some ⟨W5.heap.size, 0, none⟩) 1 1) 1 [.int .i64 0, .int .i64 f, .int .i64 pc, .int .i64 op, .int .i64 v, .bool ft] (W5.alloc (.cells #[.int .i64 0, .int .i64 f, .int .i64 pc, .int .i64 op, .int .i64 v, .bool ft] 24))) := Lib.hid (src_new (s := 6) (A := #[.int .i64 0, .int .i64 f, .int .i64 pc, .int .i64 op, .int .i64 v, .bool ft]) Tryd.underlying55 rfl (fun u hu => by simp at hu; rcases hu with rfl | rfl | rfl | rfl | rfl | rfl <;> rfl) (heap_alloc_new _ _))
                have hbd : ib + 1 ≤ 1000000 := by have := hal2.out.ka; have := hal2.out.kb; omega
                have key : Hid (∀ u8 w8, GRow 6 w8 u8 (ib + 1) (Md.xs fs0 G ib ++ [.int .i64 0, .int .i64 f, .int .i64 pc, .int .i64 op, .int .i64 v, .bool ft]) → Wrote (fun k => (Value.slice sy ib cy).ownBlock = some k) (W5.alloc (.cells #[.int .i64 0, .int .i64 f, .int .i64 pc, .int .i64 op, .int .i64 v, .bool ft] 24)) (fun k => u8.ownBlock = some k) w8 → ∃ s c, u8 = .slice s (ib + 1) c ∧ Hid (Md.Al w2 w8 fs0 G pa pb ia (ib + 1) (.slice sx ia cx) (.slice s (ib + 1) c) (k + 1))) := Lib.hid fun u8 w8 g1 g2 => by
                  obtain ⟨s, c, rfl⟩ := g1.slice
                  exact ⟨s, c, rfl, Lib.hid (hal2.out.swap.put hrun hpr hgy hgx hbB (by rw [hcc]; exact g1) g2).swap⟩
                have b0 := cell_of kA (j := 0) rfl
                have b1 := cell_of kA (j := 1) rfl
                have b2 := cell_of kA (j := 2) rfl
                have b3 := cell_of kA (j := 3) rfl
                have b4 := cell_of kA (j := 4) rfl
                have b5 := cell_of kA (j := 5) rfl
                clear cd hcc hrun hpr hgx hgy hal2 cz hz kA hbA hbB
                go_upto_region 17 with fail
                try rw [hW5]
                obtain ⟨NA, hNA⟩ : ∃ N, w5.heap.size = N := ⟨_, rfl⟩
                rw [hNA] at b0 b1 b2 b3 b4 b5
                try rw [hNA]
                clear hW5 hNA
                generalize Md.xs fs0 G ib = XX at *
                go_wp2_with (at_builtin; refine wpList_append_g rfl (.tmp 82) (.tmp 84) rfl rfl Md.elt6 hrow.out rfl rfl hsrc.out hbd ?_; intro u8 w8 g1 g2; have hk := key.out u8 w8 g1 g2; obtain ⟨s9, c9, rfl, hnx⟩ := hk; clear key g1 g2 hrow hsrc)
                go_roundw
                case rel => exact ⟨k + 1, ia, ib + 1, sx, cx, s9, c9, rfl, rfl, by go_num, by omega, hnx⟩
                case measure => simp [RowKit.intOf]; omega
          · obtain rfl : k = nb := by omega
            clear hbr
            go_wp2_with fail
            go_loopw [16] (fun u wr => ∃ i : Nat, u = .int .i64 i ∧ i ≤ ia ∧ Hid (Md.Al w2 wr fs0 G pa pb ia ib (.slice sx ia cx) (.slice sy ib cy) k)) (fun u _ => (ia - (RowKit.intOf u).toNat))
            case atStart => exact ⟨0, rfl, by omega, hal2⟩
            case round =>
              obtain ⟨i, rfl, hia, hal3⟩ := hrel
              clear hal2
              have i0 : (0 : Int) ≤ (i : Int) := by omega
              by_cases hx : i < ia
              · have ix : (i : Int) < (ia : Int) := by omega
                by_cases hy : i < ib
                · have iy : (i : Int) < (ib : Int) := by omega
                  obtain ⟨f, pc, op, v, ft, hcc⟩ : ∃ f pc op v ft, Md.cc fs0 G i = [.int .i64 0, .int .i64 f, .int .i64 pc, .int .i64 op, .int .i64 v, .bool ft] := ⟨_, _, _, _, _, rfl⟩
                  have cellsof : ∀ (s : Option Addr) (n c : Nat), GRow 6 wr (.slice s n c) n (Md.xs fs0 G n) → i < n → ∃ bx ox, s = some ⟨bx, ox, none⟩ ∧ n ≤ c ∧ c ≤ 9223372036854775807 ∧ wr.cell? ⟨bx, ox + i * 6, none⟩ = some (.int .i64 0) ∧ wr.cell? ⟨bx, ox + i * 6 + 1, none⟩ = some (.int .i64 f) ∧ wr.cell? ⟨bx, ox + i * 6 + 2, none⟩ = some (.int .i64 pc) ∧ wr.cell? ⟨bx, ox + i * 6 + 3, none⟩ = some (.int .i64 op) ∧ wr.cell? ⟨bx, ox + i * 6 + 4, none⟩ = some (.int .i64 v) ∧ wr.cell? ⟨bx, ox + i * 6 + 5, none⟩ = some (.bool ft) := fun s n c hg hi => by
                    obtain ⟨ao, bx, ox, cap2, e, hle, hm, ha, hc⟩ := hg.cell
                    obtain ⟨rfl, _, _⟩ := ha (by omega)
                    unfold maxLen at hm
                    injection e with e1 e2 e3
                    subst e1 e3
                    have q := fun j (hj : j < 6) => (Md.xs_at fs0 G n hi j hj)
                    rw [hcc] at q
                    refine ⟨bx, ox, rfl, hle, hm, (hc _ _ (q 0 (by omega))).1, ?_, ?_, ?_, ?_, ?_⟩
                    · rw [Nat.add_assoc]; exact (hc _ _ (q 1 (by omega))).1
                    · rw [Nat.add_assoc]; exact (hc _ _ (q 2 (by omega))).1
                    · rw [Nat.add_assoc]; exact (hc _ _ (q 3 (by omega))).1
                    · rw [Nat.add_assoc]; exact (hc _ _ (q 4 (by omega))).1
                    · rw [Nat.add_assoc]; exact (hc _ _ (q 5 (by omega))).1
                  obtain ⟨bx, ox, rfl, lx1, lx2, x0, x1, x2, x3, x4, x5⟩ := cellsof sx ia cx hal3.out.rx hx
                  obtain ⟨bq, oq, rfl, ly1, ly2, y0, y1, y2, y3, y4, y5⟩ := cellsof sy ib cy hal3.out.ry hy
                  have hnx : Hid (∀ q, Md.Al w2 (wr.drewN q) fs0 G pa pb ia ib (.slice (some ⟨bx, ox, none⟩) ia cx) (.slice (some ⟨bq, oq, none⟩) ib cy) k) := Lib.hid fun q => hal3.out.below (below_drewN (Below.refl _ _) q)
                  clear cellsof hcc hal3
                  go_wp2_with fail
                  go_quiet (fail)
                  go_wp2_with fail
                  go_roundw
                  case rel => exact ⟨i + 1, by go_num, by omega, Lib.hid (hnx.out _)⟩
                  case measure => simp [RowKit.intOf]; omega
                · have iy : ¬ (i : Int) < (ib : Int) := by omega
                  have iy' : decide ((i : Int) < (ib : Int)) = false := decide_eq_false iy
                  have hbr : Below w.heap.size w wr := hbw.out.trans (hal3.out.pr.bel.mono hbw.out.size)
                  have ct := Md.told_any (hall.out wr hbr).1
                  replace hbr := Lib.hid hbr
                  clear hal3 hbw hall hbs
                  go_wp2_with fail
                  with_reducible refine Calls.mono ct ?_
                  rintro e wz ⟨rfl, hbz⟩
                  have hfin := Lib.hid (hbr.out.trans (hbz.mono hbr.out.size))
                  clear ct hbz hbr
                  go_wp2_with fail
                  go_ret
                  exact ⟨rfl, hfin.out⟩
              · have ix : ¬ (i : Int) < (ia : Int) := by omega
                have ix' : decide ((i : Int) < (ia : Int)) = false := decide_eq_false ix
                by_cases hy : i < ib
                · have iy : (i : Int) < (ib : Int) := by omega
                  have iy' : decide ((i : Int) < (ib : Int)) = true := decide_eq_true iy
                  have hbr : Below w.heap.size w wr := hbw.out.trans (hal3.out.pr.bel.mono hbw.out.size)
                  have ct := Md.told_any (hall.out wr hbr).1
                  replace hbr := Lib.hid hbr
                  clear hal3 hbw hall hbs
                  go_wp2_with fail
                  with_reducible refine Calls.mono ct ?_
                  rintro e wz ⟨rfl, hbz⟩
                  have hfin := Lib.hid (hbr.out.trans (hbz.mono hbr.out.size))
                  clear ct hbz hbr
                  go_wp2_with fail
                  go_ret
                  exact ⟨rfl, hfin.out⟩
                · have iy : ¬ (i : Int) < (ib : Int) := by omega
                  have iy' : decide ((i : Int) < (ib : Int)) = false := decide_eq_false iy
                  have hbr : Below w.heap.size w wr := hbw.out.trans (hal3.out.pr.bel.mono hbw.out.size)
                  have ct := Md.told_any (hall.out wr hbr).1
                  replace hbr := Lib.hid hbr
                  clear hal3 hbw hall hbs
                  go_wp2_with fail
                  with_reducible refine Calls.mono ct ?_
                  rintro e wz ⟨rfl, hbz⟩
                  have hfin := Lib.hid (hbr.out.trans (hbz.mono hbr.out.size))
                  clear ct hbz hbr
                  go_wp2_with fail
                  go_ret
                  exact ⟨rfl, hfin.out⟩

set_option maxRecDepth 100000 in
theorem lifted (os : Os) (started : os.Started) (H : Type) (enc : TypeId × Value → H) :
    ReturnsInHanded {} Tryd.checked os 10 .any (fun w args => (Rows.modelAloneSpec.pre enc Tryd.prog Tryd.f10 [] false w args ∧ laidMetH Tryd.prog [("treadmill/code.takes", Rows.laid_treadmill_code_takes)] w) ∧ sizedMet enc Tryd.prog Tryd.f10 (OpenSpec.ofChange Rows.modelAloneSpec) false w args) (Rows.modelAloneSpec.post enc Tryd.prog Tryd.f10 false true false false) := by
  refine returnsInHanded_of_change_and (C := Tryd.checked) (X := fun w _ => laidMetH Tryd.prog [("treadmill/code.takes", Rows.laid_treadmill_code_takes)] w) (fun _ _ _ hh h => h.of_heap hh) own started (by kernel_rfl) Tryd.func10
    (ChangeSpec.witness_shaped (enc := enc) (C := Tryd.checked) (os := os) (X := fun w _ => laidMetH Tryd.prog [("treadmill/code.takes", Rows.laid_treadmill_code_takes)] w) false (World.doorLaid Tryd.prog 400 os) #[.agg #[.int .i64 0, .slice none 0 0], .slice none 0 0] 8 rfl (World.shaped_of_RefB (by kernel_rfl) (by kernel_rfl)) (by kernel_rfl) (by kernel_rfl) (by kernel_rfl) (door_met os _)) ?_
  intro W base args ds gs before hval0 hW _ _ hL _
  have hval : ∀ (j : Nat) t v, Tryd.f10.params[j]? = some t → args[j]? = some v → Value.okWide Tryd.prog W .any base t v := hval0
  have hW' := hW
  obtain ⟨p, q, hA0, hV, rfl, hfz, hnd⟩ := hW
  have hA : DataW.TrodAll enc Tryd.prog W 0 (fun _ => true) true Tryd.f10.params.toList args.toList ds p := hA0
  rw [Tryd.params10] at hA hval
  obtain ⟨v0, vs0, d0, ds0, p0, q0, hargs, rfl, rfl, h0, r0⟩ := trodAll_cons hA
  obtain ⟨v1, vs1, d1, ds1, p1, q1, rfl, rfl, rfl, h1, r1⟩ := trodAll_cons r0
  obtain ⟨rfl, rfl, rfl⟩ := trodAll_nil r1
  obtain rfl : args = #[v0, v1] := by cases args; simp_all
  obtain ⟨rfl, rfl⟩ := trodVars_none hV
  obtain ⟨g0, fv0, fs0, rfl, i0⟩ := prog_arg (hval 0 49 v0 rfl rfl) h0
  obtain ⟨zb1, i1⟩ := Rw.bools_arg (hval 1 50 v1 rfl rfl) h1
  clear hA0 hval0
  simp only [List.append_nil] at hW'
  have lt0 : ∀ x ∈ p0, x.block < W.heap.size := fun x hx => by have := hW'.lt x (by simp [hx]); simpa using this
  have lt1 : ∀ x ∈ p1, x.block < W.heap.size := fun x hx => by have := hW'.lt x (by simp [hx]); simpa using this
  refine (walk g0 fv0 fs0 v1 zb1 W (tk_of_laid hL) i0 i1).mono fun e W' ⟨he, hg⟩ => ?_
  subst he
  exact ⟨_, rfl, post_of_kept (pa := _) (pv := []) hW' (fun _ _ _ => (trodAll_cons_mk (shut_bool Tryd.underlying4 _) trodAll_mk0)) (trodAll_cons_mk (Below.trod laidOut (by kernel_rfl) (of_decide_eq_true (by kernel_rfl)) h0 hg lt0) (trodAll_cons_mk (Below.trod laidOut (by kernel_rfl) (of_decide_eq_true (by kernel_rfl)) h1 hg lt1) trodAll_mk0)) (fun _ _ => rfl) (by simp) hg⟩

theorem over : Rows.modelAloneRow.holds Tryd.pinned (OpenSpec.ofChange Rows.modelAloneSpec) :=
  OpenClaim.holds_of_wide 10 Tryd.f10 rfl rfl rfl rfl rfl rfl rfl ⟨rfl, rfl, rfl, rfl, rfl⟩ rfl rfl rfl rfl rfl (by kernel_rfl) Tryd.func10 (by kernel_rfl)
    (of_decide_eq_true (by kernel_rfl)) (by unfold Func.isWrapper; first | (rw [if_pos (by decide +kernel)]; kernel_rfl) | (rw [if_neg (by decide +kernel)]; exact ⟨rfl, rfl⟩))
    (fun os started H enc _ => lifted os started H enc)

theorem proved : Rows.ModelAloneCardSaid :=
  Claim7.holds_tied_plain_at .later [] [.data] true Rows.modelAloneCard.stood.harness true
    over (fun _ h => by cases h) (by kernel_rfl) (fun _ h => by cases h) modelAlone_row_tie rfl ⟨rfl, rfl⟩ (by kernel_rfl) rfl
    (fun f fn hf hfn => by
      obtain rfl : f = 10 := Option.some.inj ((show Tryd.prog.funcNamed "treadmill/treadmilllaw16.ModelAlone" = some 10 by kernel_rfl).symm.trans hf) |>.symm
      obtain rfl : fn = Tryd.f10 := (Option.some.inj (Tryd.func10.symm.trans hfn)).symm
      exact ⟨by kernel_rfl, fun j t ht => by
        rw [Tryd.params10] at ht
        have hm : t ∈ [49, 50] := by simpa using Array.mem_of_getElem? ht
        have hall : ([49, 50].all fun u => !Tryd.prog.wantsStandIn u) = true := by kernel_rfl
        exact (show Tryd.prog.wantsStandIn t = false by simpa using List.all_eq_true.1 hall t hm)⟩)
    (by kernel_rfl)
#print axioms proved
end Go.Proofs.YtdnajpnnjfncbaaDoor.modelAlone
