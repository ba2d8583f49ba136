/- What is wrong first is told by its place, whatever stands behind it; with all ahead of it right (15.2), by the document's bytes: any program that may be, a byte of 255 put at any place where it can't stand, any bytes behind (at most 50). No further condition but the listed table. -/
import Derived.Test.YtapkcjbfflgplaaDoorHome
import Derived.Test.YtapkcjbfflgplaaDoorDecBoth
import Derived.Test.YtapkcjbfflgplaaDoorEarly
import Derived.Test.YtapkcjbfflgplaaDoorSame
import Derived.Test.YtapkcjbfflgplaaDoorGreat
import Derived.Test.YtapkcjbfflgplaaDoorREncode
import Derived.Test.YtapkcjbfflgplaaDoorEncDec
import Derived.Test.YtapkcjbfflgplaaDoorProgArg
import Derived.WalkKit
import Derived.ProofKit
import Derived.OpenShut
import Derived.Test.YtapkcjbfflgplaaDoorTie
import Derived.Test.YtapkcjbfflgplaaDoorCards
import Derived.LaidMore
import Derived.Stop.Joined
import Derived.SevenTiedAt
import Derived.Deep.RegionHeld3
import Derived.Deep.RegionWith
import Derived.Deep.Cut
import Derived.Deep.CutBlock
import Derived.Deep.CutRange
import Derived.Deep.LoopGhost
import Derived.Deep.DeepCutAuto
import Derived.RegionTactic
import Derived.StillTailTactics
import Derived.Deep.RegionLaw
namespace Go.Proofs.YtapkcjbfflgplaaDoor.codeEarly
open Go.ChangeShapes Go.WideShapes Go.ChangeAt Go.WideElems Go.RowKit Go.Lib Fx Ho Gr Cd
set_option linter.unusedVariables false

theorem own : ownKnob Tryd.prog.godebug = none := by kernel_rfl

set_option maxRecDepth 100000 in
set_option maxHeartbeats 4000000 in
theorem walk (g0 : Int) (v0 : Value) (fs0 : List (List Ins)) (a1 : Int) (v2 : Value) (z2 : List Int) (w : World) (hT : Tk w) (h0 : FRow w v0 fs0) (w1 : (Lit.int .i64 a1).wf = true) (h2 : BRow w (fun k => k < w.heap.size) v2 z2) :
    Calls Tryd.prog 14 #[.agg #[.int .i64 g0, v0], .int .i64 a1, v2] w fun e w' => e = .returned (.bool true) ∧ Below w.heap.size w w' := by
  obtain ⟨Y, hY⟩ : ∃ Y : Int, IntKind.u64.wrap a1 = Y := ⟨_, rfl⟩
  have hY0 : 0 ≤ Y := by rw [← hY, IntKind.wrap_u64]; omega
  have hY9 : Y < 18446744073709551616 := by rw [← hY, IntKind.wrap_u64]; omega
  clear w1
  obtain ⟨sq, capq, rfl, hm9, -⟩ := id h2
  obtain ⟨nt, hnt⟩ : ∃ n, z2.length = n := ⟨_, rfl⟩
  rw [hnt] at h2 hm9 ⊢
  obtain ⟨sp, cap, rfl, hat⟩ := h0.fix
  obtain ⟨m, hmm⟩ : ∃ m, fs0.length = m := ⟨_, rfl⟩
  rw [hmm] at h0 hat ⊢
  have hbU : Hid (Below w.heap.size w (w.alloc (.cells #[.int .i64 g0, .slice sp m cap] 49))) := Lib.hid (below_alloc (Below.refl _ _) _)
  have hC := heap_alloc_new w (.cells #[.int .i64 g0, .slice sp m cap] 49)
  have c0 : (w.alloc (.cells #[.int .i64 g0, .slice sp m cap] 49)).cell? ⟨w.heap.size, 0, none⟩ = some (.int .i64 g0) := cell_of hC rfl
  have c1 : (w.alloc (.cells #[.int .i64 g0, .slice sp m cap] 49)).cell? ⟨w.heap.size, 1, none⟩ = some (.slice sp m cap) := cell_of hC rfl
  have crf := refencode_any (h0.below hbU.out) g0
  have hbyt : Hid (Byt z2) := Lib.hid h2.byt
  have hall : Hid (∀ V, Below w.heap.size w V → Tk V ∧ (convert 62 9 (.slice sq nt capq)).run Tryd.prog V = .ok (.string (byts z2)) V) := Lib.hid fun V hV => ⟨hT.below hV, row_str (h2.wrote (H := fun _ => False) (Wrote.of_below hV) (fun _ _ h => h))⟩
  have hat : Hid (∀ i, i < m → ∃ b off sv cp, sp = some ⟨b, off, none⟩ ∧ ∀ wr, Below w.heap.size w wr → wr.cell? ⟨b, off + i, none⟩ = some (.slice sv (fs0.getD i []).length cp)) := Lib.hid fun i hi => by
    obtain ⟨b, off, sv, cp, e, h⟩ := hat i hi
    exact ⟨b, off, sv, cp, e, fun wr hb => (h wr hb).1⟩
  replace hnt := Lib.hid hnt
  replace hmm := Lib.hid hmm
  clear h0 hT h2 hC
  obtain ⟨N, hN⟩ : ∃ N, w.heap.size = N := ⟨_, rfl⟩
  rw [hN] at c0 c1
  go_enter Tryd.func14, Tryd.ntmps14
  go_wp2_with fail
  obtain ⟨U, hU⟩ : ∃ U, w.alloc (.cells #[.int .i64 g0, .slice sp m cap] 49) = U := ⟨_, rfl⟩
  rw [hU] at hbU c0 c1 crf ⊢
  clear hU hN
  with_reducible refine Calls.mono crf ?_
  rintro e w2 ⟨hb2, hE⟩
  have hbw2 := Lib.hid (hbU.out.trans (hb2.mono hbU.out.size))
  clear crf
  rcases hE with ⟨hm, rfl⟩ | ⟨r, hm, hr, rfl⟩
  case inr =>
    clear hm c0 c1 hb2
    have ct := told_any (hall.out w2 hbw2.out).1
    clear hall hat
    go_wp2_with fail
    with_reducible refine Calls.mono ct ?_
    rintro e wz ⟨rfl, hbz⟩
    have hfin := hbw2.out.trans (hbz.mono hbw2.out.size)
    clear ct hbz hbw2
    go_wp2_with fail
    go_ret
    exact ⟨rfl, hfin⟩
  case inl =>
    obtain ⟨L7, L5⟩ := enc_seven hm
    have hzz : Byt (enc g0 fs0) := enc_bytes hm
    have hk : CntOk g0 fs0 := by
      rcases hm with ⟨_, hk⟩ | ⟨hk, hok, _⟩ | ⟨_, _, _, _, _, _, _, _, hk⟩
      · cases hk
      · exact hk
      · omega
    obtain ⟨m1, m16, -, -, hl64⟩ := hk
    rw [hmm.out] at m1 m16 hl64
    obtain ⟨n, hn⟩ : ∃ n, (enc g0 fs0).length = n := ⟨_, rfl⟩
    have hsz : (byts (enc g0 fs0)).size = n := by rw [byts_size]; exact hn
    rw [hn] at L7 L5
    obtain ⟨S0, hS0⟩ : ∃ S, byts (enc g0 fs0) = S := ⟨_, rfl⟩
    rw [hS0] at hsz ⊢
    replace hS0 := Lib.hid hS0
    replace hn := Lib.hid hn
    replace hm := Lib.hid hm
    replace hzz := Lib.hid hzz
    replace hl64 := Lib.hid hl64
    have hc1 : Hid (∀ V, Below w2.heap.size w2 V → V.cell? ⟨N, 1, none⟩ = some (.slice sp m cap)) := Lib.hid fun V hV => cell_then hV (cell_then hb2 c1)
    clear c0 c1 hb2 hbU
    have n0 : (0 : Int) ≤ (n : Int) := by omega
    by_cases h3 : 3000 < n
    · have e1 : decide (3000 < (n : Int)) = true := decide_eq_true (by omega)
      have e1' : (3000 : Int) < (n : Int) := by omega
      clear hc1
      have ct := told_any (hall.out w2 hbw2.out).1
      clear hall hat
      go_wp2_with fail
      with_reducible refine Calls.mono ct ?_
      rintro e wz ⟨rfl, hbz⟩
      have hfin := hbw2.out.trans (hbz.mono hbw2.out.size)
      clear ct hbz hbw2
      go_wp2_with fail
      go_ret
      exact ⟨rfl, hfin⟩
    have e1 : decide (3000 < (n : Int)) = false := decide_eq_false (by omega)
    have e1' : ¬ (3000 : Int) < (n : Int) := by omega
    by_cases h5 : 50 < nt
    · have e2 : decide (50 < (nt : Int)) = true := decide_eq_true (by omega)
      have e2' : (50 : Int) < (nt : Int) := by omega
      clear hc1
      have ct := told_any (hall.out w2 hbw2.out).1
      clear hall hat
      go_wp2_with fail
      with_reducible refine Calls.mono ct ?_
      rintro e wz ⟨rfl, hbz⟩
      have hfin := hbw2.out.trans (hbz.mono hbw2.out.size)
      clear ct hbz hbw2
      go_wp2_with fail
      go_ret
      exact ⟨rfl, hfin⟩
    have e2 : decide (50 < (nt : Int)) = false := decide_eq_false (by omega)
    have e2' : ¬ (50 : Int) < (nt : Int) := by omega
    have hst : Hid (Es w2 w2 (.slice none 0 0) g0 fs0 [] 2) := Lib.hid ⟨grow_nil _ _, fun b hb => (by cases hb), Below.refl _ _, fun x hx => (by simp at hx), (by simp)⟩
    have hple : Hid (∀ i, i ≤ m → (encP g0 fs0 i).length ≤ n) := Lib.hid fun i hi => by
      rcases i with _ | i
      · show 2 ≤ n; omega
      · rw [← hn.out]; exact enc_le (by rw [hmm.out]; omega)
    go_wp2_with fail
    go_loopw [9, 10, 11, 12] (fun u9 u10 u11 u12 wr => ∃ i : Nat, u11 = .int .i64 i ∧ u10 = .int .i64 ((encP g0 fs0 i).length : Nat) ∧ i ≤ m ∧ Hid (∃ L, Es w2 wr u9 g0 fs0 L (encP g0 fs0 i).length ∧ (0 < i → 0 < L.length))) (fun _ _ y _ _ => (m - (RowKit.intOf y).toNat))
    case atStart => exact ⟨0, rfl, rfl, by omega, Lib.hid ⟨_, hst.out, fun h => by omega⟩⟩
    case round =>
      clear hst
      obtain ⟨i, rfl, rfl, im, hE⟩ := hrel
      obtain ⟨L, hE, hLi⟩ := hE.out
      have i0 : (0 : Int) ≤ (i : Int) := by omega
      have d1 := hc1.out wr hE.low
      by_cases hi : i < m
      · have i1 : (i : Int) < (m : Int) := by omega
        obtain ⟨b, off, sv, cp, rfl, hcl⟩ := hat.out i hi
        have hKn := hple.out i im
        have hKn2 := hple.out (i + 1) hi
        have hnx := encP_next (G := g0) (fs := fs0) (i := i) (by rw [hmm.out]; exact hi)
        have hll := hl64.out i (by first | exact hi | (rw [hmm.out]; exact hi))
        obtain ⟨l, hl⟩ : ∃ l, (fs0.getD i []).length = l := ⟨_, rfl⟩
        rw [hl] at hcl hnx hll
        obtain ⟨K, hK⟩ : ∃ K, (encP g0 fs0 i).length = K := ⟨_, rfl⟩
        rw [hK] at hE hKn hnx ⊢
        have hst2 : Hid (Es w2 wr u9 g0 fs0 L (K + 1)) := Lib.hid ⟨hE.row, hE.own, hE.low, hE.at_, by have := hE.le; omega⟩
        replace hcl := Lib.hid hcl
        replace hnx := Lib.hid hnx
        replace hl := Lib.hid hl
        replace hK := Lib.hid hK
        replace hLi := Lib.hid hLi
        clear hE
        go_wp2_with fail
        clear d1
        go_loopw [9, 10, 12] (fun u9 u10 u12 wx => ∃ j : Nat, u12 = .int .i64 j ∧ u10 = .int .i64 (K + 1 + 4 * j : Nat) ∧ j ≤ l ∧ Hid (∃ L, Es w2 wx u9 g0 fs0 L (K + 1 + 4 * j) ∧ (0 < j → 0 < L.length))) (fun _ _ y _ => (l - (RowKit.intOf y).toNat))
        case atStart => exact ⟨0, rfl, by simp, by omega, Lib.hid ⟨_, hst2.out, fun h => by omega⟩⟩
        case round =>
          clear hst2
          obtain ⟨j, rfl, rfl, jl, hE⟩ := hrel
          obtain ⟨L, hE, hLj⟩ := hE.out
          have j0 : (0 : Int) ≤ (j : Int) := by omega
          have d1 := hc1.out wr hE.low
          have d2 := hcl.out wr (hbw2.out.trans (hE.low.mono hbw2.out.size))
          by_cases hj : j < l
          · have j1 : (j : Int) < (l : Int) := by omega
            obtain ⟨sl, cl, rfl⟩ := hE.row.slice
            have hle := hE.le
            obtain ⟨q, hq⟩ : ∃ q, K + 1 + 4 * j = q := ⟨_, rfl⟩
            rw [hq] at hE hle ⊢
            have hop : OpAt g0 fs0 (q : Int) := ⟨i, j, by rw [hmm.out]; exact hi, by rw [hl.out]; exact hj, by rw [encQ_long, Nat.min_eq_left (by rw [hl.out]; omega), hK.out, hq]⟩
            have hrow := Lib.hid (hE.row.below (below_alloc (Below.refl wr.heap.size wr) (.cells #[.int .i64 (q : Int)] 3)))
            have hsrc := Lib.hid (src_e (q : Int) wr)
            have hbd : L.length + 1 ≤ 1000000 := by omega
            have key : Hid (∀ v8 w8, GRow 1 w8 v8 (L.length + 1) (cells L ++ cells [(q : Int)]) → Wrote (fun b => (Value.slice sl L.length cl).ownBlock = some b) (wr.alloc (.cells #[.int .i64 (q : Int)] 3)) (fun b => v8.ownBlock = some b) w8 → (∃ s c, v8 = .slice s (L.length + 1) c) ∧ Hid (Es w2 w8 v8 g0 fs0 (L ++ [(q : Int)]) (q + 4))) := Lib.hid fun v8 w8 g1 g2 => ⟨g1.slice, Lib.hid (by have h := hE.more g1 g2 hop; exact ⟨h.row, h.own, h.low, h.at_, by have := h.le; omega⟩)⟩
            have hKn3 : q + 4 ≤ 5000 := by have := hnx.out; omega
            replace hq := Lib.hid hq
            clear hE hop hLj
            go_wp2_with (at_builtin; refine wpList_append_g rfl (.tmp 64) (.tmp 66) rfl rfl eltE hrow.out rfl rfl hsrc.out hbd ?_; intro v8 w8 g1 g2; have hk := key.out v8 w8 g1 g2; obtain ⟨⟨s8, c8, rfl⟩, hfin⟩ := hk; clear g1 g2 key hrow hsrc)
            go_roundw
            case rel => exact ⟨j + 1, by go_num, by have := hq.out; show Value.int .i64 _ = .int .i64 _; congr 1; omega, by omega, Lib.hid ⟨_, by have := hq.out; rw [show K + 1 + 4 * (j + 1) = q + 4 by omega]; exact hfin.out, fun _ => by simp⟩⟩
            case measure => simp [RowKit.intOf]; omega
          · obtain rfl : j = l := by omega
            have j1 : ¬ (j : Int) < (j : Int) := by omega
            have hfin : Hid (Es w2 wr u9 g0 fs0 L (K + 1 + 4 * j) ∧ 0 < L.length) := Lib.hid ⟨hE, hLj (by have := hll; omega)⟩
            clear hE hLj
            go_wp2_with fail
            go_roundw
            case rel => exact ⟨i + 1, by go_num, by rw [hnx.out], by omega, Lib.hid ⟨L, by rw [hnx.out]; exact hfin.out.1, fun _ => hfin.out.2⟩⟩
            case measure => simp [RowKit.intOf]; omega
      · obtain rfl : i = m := by omega
        have i1 : ¬ (i : Int) < (i : Int) := by omega
        have hL0 := hLi (by omega)
        have hLn := hE.le
        have hPn := hple.out i (Nat.le_refl _)
        obtain ⟨ao, bb, oo, cc, rfl, hle2, hmx, hcc, hcell⟩ := hE.row.cell
        obtain ⟨rfl, _, _⟩ := hcc (by omega)
        clear hcc
        obtain ⟨ln, hln⟩ : ∃ ln, L.length = ln := ⟨_, rfl⟩
        rw [hln] at hL0 hLn hle2 ⊢
        have wl : IntKind.u64.wrap (ln : Int) = (ln : Int) := by rw [IntKind.wrap_u64]; omega
        have l0 : (0 : Int) < (ln : Int) := by omega
        have l1 : ¬ (ln : Int) = 0 := by omega
        have l2 : ((ln : Int) == 0) = false := beq_eq_false_iff_ne.2 l1
        have hk0 := Int.emod_nonneg Y l1
        have hk1 := Int.emod_lt_of_pos Y l0
        obtain ⟨q, hq⟩ : ∃ q : Nat, Y % (ln : Int) = (q : Int) := ⟨(Y % (ln : Int)).toNat, by omega⟩
        rw [hq] at hk0 hk1
        have q1 : q < ln := by omega
        have hxm : L.getD q 0 ∈ L := by rw [List.getD_eq_getElem?_getD, List.getElem?_eq_getElem (by omega)]; exact List.getElem_mem _
        have hxo := hE.at_ _ hxm
        obtain ⟨i', j', hi', hj', hxe⟩ := id hxo
        have hxl := op_lt (G := g0) hi' hj'
        obtain ⟨x, hx⟩ : ∃ x : Nat, L.getD q 0 = (x : Int) := ⟨_, hxe⟩
        have hxl2 : x + 4 ≤ n := by have := hn.out; omega
        rw [hx] at hxo
        have xc := (hcell q (.int .i64 (x : Int)) (by unfold cells; rw [List.getElem?_map, List.getElem?_eq_getElem (by omega)]; rw [List.getD_eq_getElem?_getD, List.getElem?_eq_getElem (by omega)] at hx; rw [← hx]; rfl)).1
        have hbr := Lib.hid (hbw2.out.trans (hE.low.mono hbw2.out.size))
        have hP1 := Lib.hid (early_any (fs := fs0) (G := g0) hm.out hxo ((enc g0 fs0).drop (x + 1) ++ z2))
        have hP2 := Lib.hid (early_any (fs := fs0) (G := g0) hm.out hxo z2)
        have hP3 := Lib.hid (first_zero ((enc g0 fs0).drop 1))
        have hP4 := Lib.hid (second_big hm.out ((enc g0 fs0).drop 2))
        clear hE hLi hcell hxm hxo hi' hj' hxe hxl hat hc1 hple hx hl64 hm
        have lt1 : ((enc g0 fs0).take x).length = x := by rw [List.length_take]; have := hn.out; omega
        have lt2 : ((enc g0 fs0).drop (x + 1)).length = n - (x + 1) := by rw [List.length_drop]; have := hn.out; omega
        have lt3 : ((enc g0 fs0).drop 1).length = n - 1 := by rw [List.length_drop]; have := hn.out; omega
        have lt4 : ((enc g0 fs0).take 1).length = 1 := by rw [List.length_take]; have := hn.out; omega
        have lt5 : ((enc g0 fs0).drop 2).length = n - 2 := by rw [List.length_drop]; have := hn.out; omega
        have hY1 : Hid (Byt (((enc g0 fs0).take x ++ [255]) ++ ((enc g0 fs0).drop (x + 1) ++ z2))) := Lib.hid (((hzz.out.take x).app (Byt.one (by omega))).app ((hzz.out.drop _).app hbyt.out))
        have hY2 : Hid (Byt (((enc g0 fs0).take x ++ [255]) ++ z2)) := Lib.hid (((hzz.out.take x).app (Byt.one (by omega))).app hbyt.out)
        have hY3 : Hid (Byt ([0] ++ (enc g0 fs0).drop 1)) := Lib.hid ((Byt.one (by omega)).app (hzz.out.drop 1))
        have hY4 : Hid (Byt (((enc g0 fs0).take 1 ++ [33]) ++ (enc g0 fs0).drop 2)) := Lib.hid (((hzz.out.take 1).app (Byt.one (by omega))).app (hzz.out.drop 2))
        obtain ⟨n1, hn1⟩ : ∃ k, (((enc g0 fs0).take x ++ [255]) ++ ((enc g0 fs0).drop (x + 1) ++ z2)).length = k := ⟨_, rfl⟩
        obtain ⟨n2, hn2⟩ : ∃ k, (((enc g0 fs0).take x ++ [255]) ++ z2).length = k := ⟨_, rfl⟩
        obtain ⟨n3, hn3⟩ : ∃ k, ([0] ++ (enc g0 fs0).drop 1).length = k := ⟨_, rfl⟩
        obtain ⟨n4, hn4⟩ : ∃ k, (((enc g0 fs0).take 1 ++ [33]) ++ (enc g0 fs0).drop 2).length = k := ⟨_, rfl⟩
        have nb : n1 ≤ 10000 ∧ n2 ≤ 10000 ∧ n3 ≤ 10000 ∧ n4 ≤ 10000 := by
          rw [← hn1, ← hn2, ← hn3, ← hn4]
          simp only [List.length_append, lt1, lt2, lt3, lt4, lt5, hnt.out, List.length_singleton]
          omega
        obtain ⟨nb1, nb2, nb3, nb4⟩ := nb
        have s1 : ∀ W, (Instr.slice 9 (.string (byts (enc g0 fs0))) none (some (.int .i64 (x : Int))) none).run Tryd.prog W = .ok (.string (byts ((enc g0 fs0).take x))) W := fun W => low_run _ (by rw [hn.out]; omega) W
        have s2 : ∀ W, (Instr.slice 9 (.string (byts (enc g0 fs0))) (some (.int .i64 ((x : Int) + 1))) none none).run Tryd.prog W = .ok (.string (byts ((enc g0 fs0).drop (x + 1)))) W := fun W => high_run _ (k := x + 1) (by rw [hn.out]; omega) W
        have s3 : ∀ W, (Instr.slice 9 (.string (byts (enc g0 fs0))) (some (.int .i64 1)) none none).run Tryd.prog W = .ok (.string (byts ((enc g0 fs0).drop 1))) W := fun W => high_run _ (k := 1) (by rw [hn.out]; omega) W
        have s4 : ∀ W, (Instr.slice 9 (.string (byts (enc g0 fs0))) none (some (.int .i64 1)) none).run Tryd.prog W = .ok (.string (byts ((enc g0 fs0).take 1))) W := fun W => low_run _ (k := 1) (by rw [hn.out]; omega) W
        have s5 : ∀ W, (Instr.slice 9 (.string (byts (enc g0 fs0))) (some (.int .i64 2)) none none).run Tryd.prog W = .ok (.string (byts ((enc g0 fs0).drop 2))) W := fun W => high_run _ (k := 2) (by rw [hn.out]; omega) W
        have b255 : (⟨#[255]⟩ : ByteArray) = byts [255] := rfl
        have b33 : (⟨#[33]⟩ : ByteArray) = byts [33] := rfl
        have b00 : (⟨#[0]⟩ : ByteArray) = byts [0] := rfl
        have p1 : byts ((enc g0 fs0).take x) ++ (⟨#[255]⟩ : ByteArray) = byts ((enc g0 fs0).take x ++ [255]) := by rw [b255]; exact byts_app _ _
        have p2 : byts ((enc g0 fs0).take x ++ [255]) ++ byts ((enc g0 fs0).drop (x + 1)) = byts (((enc g0 fs0).take x ++ [255]) ++ (enc g0 fs0).drop (x + 1)) := byts_app _ _
        have p3 : byts (((enc g0 fs0).take x ++ [255]) ++ (enc g0 fs0).drop (x + 1)) ++ byts z2 = byts (((enc g0 fs0).take x ++ [255]) ++ ((enc g0 fs0).drop (x + 1) ++ z2)) := by rw [byts_app, List.append_assoc]
        have p4 : byts ((enc g0 fs0).take x ++ [255]) ++ byts z2 = byts (((enc g0 fs0).take x ++ [255]) ++ z2) := byts_app _ _
        have p5 : (⟨#[0]⟩ : ByteArray) ++ byts ((enc g0 fs0).drop 1) = byts ([0] ++ (enc g0 fs0).drop 1) := by rw [b00]; exact byts_app _ _
        have p6 : byts ((enc g0 fs0).take 1) ++ (⟨#[33]⟩ : ByteArray) = byts ((enc g0 fs0).take 1 ++ [33]) := by rw [b33]; exact byts_app _ _
        have p7 : byts ((enc g0 fs0).take 1 ++ [33]) ++ byts ((enc g0 fs0).drop 2) = byts (((enc g0 fs0).take 1 ++ [33]) ++ (enc g0 fs0).drop 2) := byts_app _ _
        have z1 : (byts ((enc g0 fs0).take x)).size = x := by rw [byts_size]; exact lt1
        have y2 : (byts ((enc g0 fs0).drop (x + 1))).size = n - (x + 1) := by rw [byts_size]; exact lt2
        have z3 : (byts ((enc g0 fs0).take x ++ [255])).size = x + 1 := by rw [byts_size, List.length_append, lt1]; rfl
        have z4 : (byts (((enc g0 fs0).take x ++ [255]) ++ (enc g0 fs0).drop (x + 1))).size = n := by rw [byts_size, List.length_append, List.length_append, lt1, lt2, List.length_singleton]; omega
        have z5 : (byts z2).size = nt := by rw [byts_size]; exact hnt.out
        have z6 : (byts ((enc g0 fs0).drop 1)).size = n - 1 := by rw [byts_size]; exact lt3
        have z7 : (byts ((enc g0 fs0).take 1)).size = 1 := by rw [byts_size]; exact lt4
        have z8 : (byts ((enc g0 fs0).take 1 ++ [33])).size = 2 := by rw [byts_size, List.length_append, lt4]; rfl
        have z9 : (byts ((enc g0 fs0).drop 2)).size = n - 2 := by rw [byts_size]; exact lt5
        have r1 : ¬ 9223372036854775807 < x + 1 := by omega
        have r2 : ¬ 9223372036854775807 < x + 1 + (n - (x + 1)) := by omega
        have r3 : ¬ 9223372036854775807 < n + nt := by omega
        have r4 : ¬ 9223372036854775807 < x + 1 + nt := by omega
        have r5 : ¬ 9223372036854775807 < 1 + (n - 1) := by omega
        have r6 : ¬ 9223372036854775807 < 2 + (n - 2) := by omega
        have wx : IntKind.i64.wrap ((x : Int) + 1) = (x : Int) + 1 := by rw [IntKind.wrap_i64]; omega
        rw [hS0.out] at s1 s2 s3 s4 s5
        obtain ⟨B1, hB1⟩ : ∃ S, byts ((enc g0 fs0).take x) = S := ⟨_, rfl⟩
        obtain ⟨B2, hB2⟩ : ∃ S, byts ((enc g0 fs0).drop (x + 1)) = S := ⟨_, rfl⟩
        obtain ⟨B3, hB3⟩ : ∃ S, byts ((enc g0 fs0).take x ++ [255]) = S := ⟨_, rfl⟩
        obtain ⟨B4, hB4⟩ : ∃ S, byts (((enc g0 fs0).take x ++ [255]) ++ (enc g0 fs0).drop (x + 1)) = S := ⟨_, rfl⟩
        obtain ⟨B5, hB5⟩ : ∃ S, byts z2 = S := ⟨_, rfl⟩
        obtain ⟨B6, hB6⟩ : ∃ S, byts ((enc g0 fs0).drop 1) = S := ⟨_, rfl⟩
        obtain ⟨B7, hB7⟩ : ∃ S, byts ((enc g0 fs0).take 1) = S := ⟨_, rfl⟩
        obtain ⟨B8, hB8⟩ : ∃ S, byts ((enc g0 fs0).take 1 ++ [33]) = S := ⟨_, rfl⟩
        obtain ⟨B9, hB9⟩ : ∃ S, byts ((enc g0 fs0).drop 2) = S := ⟨_, rfl⟩
        obtain ⟨X1, hX1⟩ : ∃ S, byts (((enc g0 fs0).take x ++ [255]) ++ ((enc g0 fs0).drop (x + 1) ++ z2)) = S := ⟨_, rfl⟩
        obtain ⟨X2, hX2⟩ : ∃ S, byts (((enc g0 fs0).take x ++ [255]) ++ z2) = S := ⟨_, rfl⟩
        obtain ⟨X3, hX3⟩ : ∃ S, byts ([0] ++ (enc g0 fs0).drop 1) = S := ⟨_, rfl⟩
        obtain ⟨X4, hX4⟩ : ∃ S, byts (((enc g0 fs0).take 1 ++ [33]) ++ (enc g0 fs0).drop 2) = S := ⟨_, rfl⟩
        rw [hB1] at s1 p1 z1
        rw [hB2] at s2 p2 y2
        rw [hB3] at p1 p2 p4 z3
        rw [hB4] at p2 p3 z4
        rw [hB5] at p3 p4 z5 hall
        rw [hB6] at s3 p5 z6
        rw [hB7] at s4 p6 z7
        rw [hB8] at p6 p7 z8
        rw [hB9] at s5 p7 z9
        rw [hX1] at p3
        rw [hX2] at p4
        rw [hX3] at p5
        rw [hX4] at p7
        replace hX1 := Lib.hid hX1
        replace hX2 := Lib.hid hX2
        replace hX3 := Lib.hid hX3
        replace hX4 := Lib.hid hX4
        clear hB1 hB2 hB3 hB4 hB5 hB6 hB7 hB8 hB9 b255 b33 b00 lt1 lt2 lt3 lt4 lt5 hzz hbyt hnt hS0 hk1
        generalize (((enc g0 fs0).take x ++ [255]) ++ ((enc g0 fs0).drop (x + 1) ++ z2)) = Y1 at *
        generalize (((enc g0 fs0).take x ++ [255]) ++ z2) = Y2 at *
        generalize ([0] ++ (enc g0 fs0).drop 1) = Y3 at *
        generalize (((enc g0 fs0).take 1 ++ [33]) ++ (enc g0 fs0).drop 2) = Y4 at *
        go_upto_region 16 with fail
        go_region
        have hbr := Lib.hid (hbr.out.drew)
        obtain ⟨wa, hwa⟩ : ∃ wa, wr.drew = wa := ⟨_, rfl⟩
        rw [hwa] at hbr ⊢
        clear hwa xc
        have hcvt := (hall.out wa hbr.out).2
        obtain ⟨sp1, cp1, V1, hcv1, hbr1, hbv1⟩ := conv_bytes wa Y1 hY1.out (by rw [hn1]; omega)
        rw [hn1] at hcv1 hbr1
        rw [hX1.out] at hcv1
        have hbw := Lib.hid (hbr.out.trans (hbv1.mono hbr.out.size))
        have cd := decode_any (hall.out V1 hbw.out).1 hbr1
        clear hbr1 hbv1 hbr
        go_wp2_with fail
        with_reducible refine Calls.mono cd ?_
        rintro e w1 (⟨G', fs', fv', hE1, _⟩ | ⟨q', hE1, rfl, hbx⟩)
        case inl => rw [hP1.out] at hE1; cases hE1
        rw [hP1.out] at hE1
        cases hE1
        clear cd hP1 hcv1
        have hbr := Lib.hid (below_alloc (hbw.out.trans (hbx.mono hbw.out.size)) (.cells #[.int .i64 0, .slice none 0 0] 49))
        clear hcvt hbx hbw
        go_upto_region 18 with fail
        obtain ⟨wb, hwb⟩ : ∃ wb, w1.alloc (.cells #[.int .i64 0, .slice none 0 0] 49) = wb := ⟨_, rfl⟩
        rw [hwb] at hbr ⊢
        clear hwb
        have hbd : Hid (Below wb.heap.size wb wb.drew) := Lib.hid ((Below.refl _ _).drew)
        obtain ⟨spA, cpA, VA, hcvA, hbrA, hbvA⟩ := conv_bytes wb.drew Y2 hY2.out (by rw [hn2]; omega)
        obtain ⟨spB, cpB, VB, hcvB, hbrB, hbvB⟩ := conv_bytes (wb.alloc (.cells #[.int .i64 0, .slice none 0 0] 49)).drew Y2 hY2.out (by rw [hn2]; omega)
        rw [hn2] at hcvA hcvB hbrA hbrB
        rw [hX2.out] at hcvA hcvB
        have hA : Hid (Below wb.heap.size wb VA) := Lib.hid (hbd.out.trans (hbvA.mono hbd.out.size))
        have hA2 : Hid (Below wb.heap.size wb (VA.alloc (.cells #[.int .i64 0, .slice none 0 0] 49))) := Lib.hid (hA.out.alloc hA.out.size _)
        have hB1 : Below wb.heap.size wb (wb.alloc (.cells #[.int .i64 0, .slice none 0 0] 49)).drew := (below_alloc (Below.refl _ _) _).drew
        have hB : Hid (Below wb.heap.size wb VB) := Lib.hid (hB1.trans (hbvB.mono hB1.size))
        have kA := heap_alloc_new VA (.cells #[.int .i64 0, .slice none 0 0] 49)
        have kB0 : (wb.alloc (.cells #[.int .i64 0, .slice none 0 0] 49)).drew.heap[wb.heap.size]? = some (.cells #[.int .i64 0, .slice none 0 0] 49 (0, 0)) := heap_alloc_new wb (.cells #[.int .i64 0, .slice none 0 0] 49)
        have kB := (hbvB.block _ (block_lt kB0)).trans kB0
        have hS : Hid (∀ V, Below wb.heap.size wb V → (convert 62 9 (.slice sq nt capq)).run Tryd.prog V = .ok (.string B5) V) := Lib.hid fun V hV => (hall.out V (hbr.out.trans (hV.mono hbr.out.size))).2
        have cdA : Hid (Calls Tryd.prog 37 #[.slice spA n2 cpA] VA fun e wz => e = .returned (.tuple #[.agg #[.int .i64 0, .slice none 0 0], .int .i64 6, .int .i64 (x : Int)]) ∧ (convert 62 9 (.slice sq nt capq)).run Tryd.prog wz = .ok (.string B5) wz ∧ Hid (Below wb.heap.size wb wz)) := Lib.hid ((decode_any (hall.out _ (hbr.out.trans (hA.out.mono hbr.out.size))).1 hbrA).mono fun e wz h => by
          rcases h with ⟨G', fs', fv', hE1, _⟩ | ⟨q', hE1, he, hbx⟩
          · rw [hP2.out] at hE1; cases hE1
          · rw [hP2.out] at hE1; cases hE1
            have h4 := hA.out.trans (hbx.mono hA.out.size)
            exact ⟨he, hS.out wz h4, Lib.hid h4⟩)
        have cdA2 : Hid (Calls Tryd.prog 37 #[.slice spA n2 cpA] (VA.alloc (.cells #[.int .i64 0, .slice none 0 0] 49)) fun e wz => e = .returned (.tuple #[.agg #[.int .i64 0, .slice none 0 0], .int .i64 6, .int .i64 (x : Int)]) ∧ ((convert 62 9 (.slice sq nt capq)).run Tryd.prog wz = .ok (.string B5) wz ∧ wz.cell? ⟨VA.heap.size, 0, none⟩ = some (.int .i64 0) ∧ wz.cell? ⟨VA.heap.size, 1, none⟩ = some (.slice none 0 0) ∧ wz.frozen? ⟨VA.heap.size, 0, none⟩ = false ∧ wz.frozen? ⟨VA.heap.size, 1, none⟩ = false) ∧ Hid (Below wb.heap.size wb wz) ∧ Hid (Below wb.heap.size wb ((wz.setCell ⟨VA.heap.size, 0, none⟩ (.int .i64 0)).setCell ⟨VA.heap.size, 1, none⟩ (.slice none 0 0)))) := Lib.hid ((decode_any (hall.out _ (hbr.out.trans (hA2.out.mono hbr.out.size))).1 (hbrA.up (below_alloc (Below.refl _ _) _))).mono fun e wz h => by
          rcases h with ⟨G', fs', fv', hE1, _⟩ | ⟨q', hE1, he, hbx⟩
          · rw [hP2.out] at hE1; cases hE1
          · rw [hP2.out] at hE1; cases hE1
            have h4 := hA2.out.trans (hbx.mono hA2.out.size)
            have k := (hbx.block _ (block_lt kA)).trans kA
            exact ⟨he, ⟨hS.out wz h4, cell_of k rfl, cell_of k rfl, frozen_of_row _ _ 0 _ _ k, frozen_of_row _ _ 1 _ _ k⟩, Lib.hid h4, Lib.hid (h4.trans (below_two (by have := hA.out.size; omega) h4.size))⟩)
        have cdB : Hid (Calls Tryd.prog 37 #[.slice spB n2 cpB] VB fun e wz => e = .returned (.tuple #[.agg #[.int .i64 0, .slice none 0 0], .int .i64 6, .int .i64 (x : Int)]) ∧ ((convert 62 9 (.slice sq nt capq)).run Tryd.prog wz = .ok (.string B5) wz ∧ wz.cell? ⟨wb.heap.size, 0, none⟩ = some (.int .i64 0) ∧ wz.cell? ⟨wb.heap.size, 1, none⟩ = some (.slice none 0 0) ∧ wz.frozen? ⟨wb.heap.size, 0, none⟩ = false ∧ wz.frozen? ⟨wb.heap.size, 1, none⟩ = false) ∧ Hid (Below wb.heap.size wb wz) ∧ Hid (Below wb.heap.size wb ((wz.setCell ⟨wb.heap.size, 0, none⟩ (.int .i64 0)).setCell ⟨wb.heap.size, 1, none⟩ (.slice none 0 0)))) := Lib.hid ((decode_any (hall.out _ (hbr.out.trans (hB.out.mono hbr.out.size))).1 hbrB).mono fun e wz h => by
          rcases h with ⟨G', fs', fv', hE1, _⟩ | ⟨q', hE1, he, hbx⟩
          · rw [hP2.out] at hE1; cases hE1
          · rw [hP2.out] at hE1; cases hE1
            have h4 := hB.out.trans (hbx.mono hB.out.size)
            have k := (hbx.block _ (block_lt kB)).trans kB
            exact ⟨he, ⟨hS.out wz h4, cell_of k rfl, cell_of k rfl, frozen_of_row _ _ 0 _ _ k, frozen_of_row _ _ 1 _ _ k⟩, Lib.hid h4, Lib.hid (h4.trans (below_two (Nat.le_refl _) h4.size))⟩)
        have hS0 := hS.out _ hbd.out
        clear hbrA hbrB hbvA hbvB kA kB kB0 hB1 hP2
        go_cut [18, 19, 20] from 99 to 111 (fun u18 u19 u20 wx => u19 = .int .i64 6 ∧ u20 = .int .i64 (x : Int) ∧ Hid (Below wb.heap.size wb wx))
        case first =>
          have hS2 := hS.out _ ((below_alloc (Below.refl _ _) _).drew : Below wb.heap.size wb (wb.alloc (.cells #[.int .i64 0, .slice none 0 0] 49)).drew)
          go_region_with ((go_at_call 37; (first | ((with_reducible refine cdA.out.mono ?_); rintro e wy ⟨rfl, hky, hby⟩) | ((with_reducible refine cdA2.out.mono ?_); rintro e wy ⟨rfl, ⟨hky, k0, k1, f0, f1⟩, hby, hset⟩) | ((with_reducible refine cdB.out.mono ?_); rintro e wy ⟨rfl, ⟨hky, k0, k1, f0, f1⟩, hby, hset⟩))))
          all_goals
            go_wp2_with fail
            go_meet
            exact ⟨rfl, rfl, Lib.hid (by repeat (first | exact Hid.out (by assumption) | refine below_alloc ?_ _ | refine Below.drew ?_))⟩
        case rest =>
          obtain ⟨rfl, rfl, hbc⟩ := hcut
          have hbr := Lib.hid (hbr.out.trans (hbc.out.mono hbr.out.size))
          clear hS0 cdA cdA2 cdB hcvA hcvB hA hA2 hB hS hbd hbc
          obtain ⟨sp3, cp3, V3, hcv3, hbr3, hbv3⟩ := conv_bytes wc Y3 hY3.out (by rw [hn3]; omega)
          rw [hn3] at hcv3 hbr3
          rw [hX3.out] at hcv3
          have hbw := Lib.hid (hbr.out.trans (hbv3.mono hbr.out.size))
          have cd := decode_any (hall.out V3 hbw.out).1 hbr3
          clear hbr3 hbv3 hbr
          go_wp2_with fail
          with_reducible refine Calls.mono cd ?_
          rintro e w3 (⟨G', fs', fv', hE1, _⟩ | ⟨q', hE1, rfl, hbx⟩)
          case inl => rw [hP3.out] at hE1; cases hE1
          rw [hP3.out] at hE1
          cases hE1
          clear cd hP3 hcv3
          have hbr := Lib.hid (below_alloc (hbw.out.trans (hbx.mono hbw.out.size)) (.cells #[.int .i64 0, .slice none 0 0] 49))
          clear hbx hbw
          go_upto_region 20 with fail
          obtain ⟨wd, hwd⟩ : ∃ wd, w3.alloc (.cells #[.int .i64 0, .slice none 0 0] 49) = wd := ⟨_, rfl⟩
          rw [hwd] at hbr ⊢
          clear hwd
          have hbd : Hid (Below wd.heap.size wd wd.drew) := Lib.hid ((Below.refl _ _).drew)
          obtain ⟨spA, cpA, VA, hcvA, hbrA, hbvA⟩ := conv_bytes wd.drew Y4 hY4.out (by rw [hn4]; omega)
          obtain ⟨spB, cpB, VB, hcvB, hbrB, hbvB⟩ := conv_bytes (wd.alloc (.cells #[.int .i64 0, .slice none 0 0] 49)).drew Y4 hY4.out (by rw [hn4]; omega)
          rw [hn4] at hcvA hcvB hbrA hbrB
          rw [hX4.out] at hcvA hcvB
          have hA : Hid (Below wd.heap.size wd VA) := Lib.hid (hbd.out.trans (hbvA.mono hbd.out.size))
          have hA2 : Hid (Below wd.heap.size wd (VA.alloc (.cells #[.int .i64 0, .slice none 0 0] 49))) := Lib.hid (hA.out.alloc hA.out.size _)
          have hB1 : Below wd.heap.size wd (wd.alloc (.cells #[.int .i64 0, .slice none 0 0] 49)).drew := (below_alloc (Below.refl _ _) _).drew
          have hB : Hid (Below wd.heap.size wd VB) := Lib.hid (hB1.trans (hbvB.mono hB1.size))
          have kA := heap_alloc_new VA (.cells #[.int .i64 0, .slice none 0 0] 49)
          have kB0 : (wd.alloc (.cells #[.int .i64 0, .slice none 0 0] 49)).drew.heap[wd.heap.size]? = some (.cells #[.int .i64 0, .slice none 0 0] 49 (0, 0)) := heap_alloc_new wd (.cells #[.int .i64 0, .slice none 0 0] 49)
          have kB := (hbvB.block _ (block_lt kB0)).trans kB0
          have hS : Hid (∀ V, Below wd.heap.size wd V → (convert 62 9 (.slice sq nt capq)).run Tryd.prog V = .ok (.string B5) V) := Lib.hid fun V hV => (hall.out V (hbr.out.trans (hV.mono hbr.out.size))).2
          have cdA : Hid (Calls Tryd.prog 37 #[.slice spA n4 cpA] VA fun e wz => e = .returned (.tuple #[.agg #[.int .i64 0, .slice none 0 0], .int .i64 6, .int .i64 1]) ∧ (convert 62 9 (.slice sq nt capq)).run Tryd.prog wz = .ok (.string B5) wz ∧ Hid (Below wd.heap.size wd wz)) := Lib.hid ((decode_any (hall.out _ (hbr.out.trans (hA.out.mono hbr.out.size))).1 hbrA).mono fun e wz h => by
            rcases h with ⟨G', fs', fv', hE1, _⟩ | ⟨q', hE1, he, hbx⟩
            · rw [hP4.out] at hE1; cases hE1
            · rw [hP4.out] at hE1; cases hE1
              have h4 := hA.out.trans (hbx.mono hA.out.size)
              exact ⟨he, hS.out wz h4, Lib.hid h4⟩)
          have cdA2 : Hid (Calls Tryd.prog 37 #[.slice spA n4 cpA] (VA.alloc (.cells #[.int .i64 0, .slice none 0 0] 49)) fun e wz => e = .returned (.tuple #[.agg #[.int .i64 0, .slice none 0 0], .int .i64 6, .int .i64 1]) ∧ ((convert 62 9 (.slice sq nt capq)).run Tryd.prog wz = .ok (.string B5) wz ∧ wz.cell? ⟨VA.heap.size, 0, none⟩ = some (.int .i64 0) ∧ wz.cell? ⟨VA.heap.size, 1, none⟩ = some (.slice none 0 0) ∧ wz.frozen? ⟨VA.heap.size, 0, none⟩ = false ∧ wz.frozen? ⟨VA.heap.size, 1, none⟩ = false) ∧ Hid (Below wd.heap.size wd wz) ∧ Hid (Below wd.heap.size wd ((wz.setCell ⟨VA.heap.size, 0, none⟩ (.int .i64 0)).setCell ⟨VA.heap.size, 1, none⟩ (.slice none 0 0)))) := Lib.hid ((decode_any (hall.out _ (hbr.out.trans (hA2.out.mono hbr.out.size))).1 (hbrA.up (below_alloc (Below.refl _ _) _))).mono fun e wz h => by
            rcases h with ⟨G', fs', fv', hE1, _⟩ | ⟨q', hE1, he, hbx⟩
            · rw [hP4.out] at hE1; cases hE1
            · rw [hP4.out] at hE1; cases hE1
              have h4 := hA2.out.trans (hbx.mono hA2.out.size)
              have k := (hbx.block _ (block_lt kA)).trans kA
              exact ⟨he, ⟨hS.out wz h4, cell_of k rfl, cell_of k rfl, frozen_of_row _ _ 0 _ _ k, frozen_of_row _ _ 1 _ _ k⟩, Lib.hid h4, Lib.hid (h4.trans (below_two (by have := hA.out.size; omega) h4.size))⟩)
          have cdB : Hid (Calls Tryd.prog 37 #[.slice spB n4 cpB] VB fun e wz => e = .returned (.tuple #[.agg #[.int .i64 0, .slice none 0 0], .int .i64 6, .int .i64 1]) ∧ ((convert 62 9 (.slice sq nt capq)).run Tryd.prog wz = .ok (.string B5) wz ∧ wz.cell? ⟨wd.heap.size, 0, none⟩ = some (.int .i64 0) ∧ wz.cell? ⟨wd.heap.size, 1, none⟩ = some (.slice none 0 0) ∧ wz.frozen? ⟨wd.heap.size, 0, none⟩ = false ∧ wz.frozen? ⟨wd.heap.size, 1, none⟩ = false) ∧ Hid (Below wd.heap.size wd wz) ∧ Hid (Below wd.heap.size wd ((wz.setCell ⟨wd.heap.size, 0, none⟩ (.int .i64 0)).setCell ⟨wd.heap.size, 1, none⟩ (.slice none 0 0)))) := Lib.hid ((decode_any (hall.out _ (hbr.out.trans (hB.out.mono hbr.out.size))).1 hbrB).mono fun e wz h => by
            rcases h with ⟨G', fs', fv', hE1, _⟩ | ⟨q', hE1, he, hbx⟩
            · rw [hP4.out] at hE1; cases hE1
            · rw [hP4.out] at hE1; cases hE1
              have h4 := hB.out.trans (hbx.mono hB.out.size)
              have k := (hbx.block _ (block_lt kB)).trans kB
              exact ⟨he, ⟨hS.out wz h4, cell_of k rfl, cell_of k rfl, frozen_of_row _ _ 0 _ _ k, frozen_of_row _ _ 1 _ _ k⟩, Lib.hid h4, Lib.hid (h4.trans (below_two (Nat.le_refl _) h4.size))⟩)
          have hS0 := hS.out _ hbd.out
          clear hbrA hbrB hbvA hbvB kA kB kB0 hB1 hP4
          go_cut [24, 25, 26] from 121 to 132 (fun u24 u25 u26 wx => u25 = .int .i64 6 ∧ u26 = .int .i64 1 ∧ Hid (Below wd.heap.size wd wx))
          case first =>
            have hS2 := hS.out _ ((below_alloc (Below.refl _ _) _).drew : Below wd.heap.size wd (wd.alloc (.cells #[.int .i64 0, .slice none 0 0] 49)).drew)
            go_region_with ((go_at_call 37; (first | ((with_reducible refine cdA.out.mono ?_); rintro e wy ⟨rfl, hky, hby⟩) | ((with_reducible refine cdA2.out.mono ?_); rintro e wy ⟨rfl, ⟨hky, k0, k1, f0, f1⟩, hby, hset⟩) | ((with_reducible refine cdB.out.mono ?_); rintro e wy ⟨rfl, ⟨hky, k0, k1, f0, f1⟩, hby, hset⟩))))
            all_goals
              go_wp2_with fail
              go_meet
              exact ⟨rfl, rfl, Lib.hid (by repeat (first | exact Hid.out (by assumption) | refine below_alloc ?_ _ | refine Below.drew ?_))⟩
          case rest =>
            obtain ⟨rfl, rfl, hbc⟩ := hcut
            have hbr := Lib.hid (hbr.out.trans (hbc.out.mono hbr.out.size))
            clear hS0 cdA cdA2 cdB hcvA hcvB hA hA2 hB hS hbd hbc s1 s2 s3 s4 s5 p1 p2 p3 p4 p5 p6 p7 z1 y2 z3 z4 z5 z6 z7 z8 z9 r1 r2 r3 r4 r5 r6
            have ct := told_any (hall.out _ hbr.out).1
            clear hall
            go_wp2_with fail
            with_reducible refine Calls.mono ct ?_
            rintro e wz ⟨rfl, hbz⟩
            have hfin := hbr.out.trans (hbz.mono hbr.out.size)
            clear ct hbz hbr
            go_wp2_with fail
            go_ret
            exact ⟨rfl, hfin⟩

set_option maxRecDepth 100000 in
theorem lifted (os : Os) (started : os.Started) (H : Type) (enc : TypeId × Value → H) :
    ReturnsInHanded {} Tryd.checked os 14 .any (fun w args => (Rows.codeEarlySpec.pre enc Tryd.prog Tryd.f14 [] false w args ∧ laidMetH Tryd.prog [("treadmill/code.takes", Rows.laid_treadmill_code_takes)] w) ∧ sizedMet enc Tryd.prog Tryd.f14 (OpenSpec.ofChange Rows.codeEarlySpec) false w args) (Rows.codeEarlySpec.post enc Tryd.prog Tryd.f14 false true false false) := by
  refine returnsInHanded_of_change_and (C := Tryd.checked) (X := fun w _ => laidMetH Tryd.prog [("treadmill/code.takes", Rows.laid_treadmill_code_takes)] w) (fun _ _ _ hh h => h.of_heap hh) own started (by kernel_rfl) Tryd.func14
    (ChangeSpec.witness_shaped (enc := enc) (C := Tryd.checked) (os := os) (X := fun w _ => laidMetH Tryd.prog [("treadmill/code.takes", Rows.laid_treadmill_code_takes)] w) false (World.doorLaid Tryd.prog 400 os) #[.agg #[.int .i64 0, .slice none 0 0], .int .i64 0, .slice none 0 0] 8 rfl (World.shaped_of_RefB (by kernel_rfl) (by kernel_rfl)) (by kernel_rfl) (by kernel_rfl) (by kernel_rfl) (door_met os _)) ?_
  intro W base args ds gs before hval0 hW _ _ hL _
  have hval : ∀ (j : Nat) t v, Tryd.f14.params[j]? = some t → args[j]? = some v → Value.okWide Tryd.prog W .any base t v := hval0
  have hW' := hW
  obtain ⟨p, q, hA0, hV, rfl, hfz, hnd⟩ := hW
  have hA : DataW.TrodAll enc Tryd.prog W 0 (fun _ => true) true Tryd.f14.params.toList args.toList ds p := hA0
  rw [Tryd.params14] at hA hval
  obtain ⟨v0, vs0, d0, ds0, p0, q0, hargs, rfl, rfl, h0, r0⟩ := trodAll_cons hA
  obtain ⟨v1, vs1, d1, ds1, p1, q1, rfl, rfl, rfl, h1, r1⟩ := trodAll_cons r0
  obtain ⟨v2, vs2, d2, ds2, p2, q2, rfl, rfl, rfl, h2, r2⟩ := trodAll_cons r1
  obtain ⟨rfl, rfl, rfl⟩ := trodAll_nil r2
  obtain rfl : args = #[v0, v1, v2] := by cases args; simp_all
  obtain ⟨rfl, rfl⟩ := trodVars_none hV
  obtain ⟨g0, fv0, fs0, rfl, i0⟩ := prog_arg (hval 0 49 v0 rfl rfl) h0
  obtain ⟨z2, i2⟩ := bytes_arg (hval 2 62 v2 rfl rfl) h2
  obtain ⟨a1, rfl, rfl, rfl, w1⟩ := open_int Tryd.underlying3 (hval 1 3 v1 rfl rfl) h1
  clear hA0 hval0
  simp only [List.append_nil] at hW'
  have lt0 : ∀ x ∈ p0, x.block < W.heap.size := fun x hx => by have := hW'.lt x (by simp [hx]); simpa using this
  have lt2 : ∀ x ∈ p2, x.block < W.heap.size := fun x hx => by have := hW'.lt x (by simp [hx]); simpa using this
  refine (walk g0 fv0 fs0 a1 v2 z2 W (tk_of_laid hL) i0 w1 i2).mono fun e W' ⟨he, hg⟩ => ?_
  subst he
  exact ⟨_, rfl, post_of_kept (pa := _) (pv := []) hW' (fun _ _ _ => (trodAll_cons_mk (shut_bool Tryd.underlying4 _) trodAll_mk0)) (trodAll_cons_mk (Below.trod laidOut (by kernel_rfl) (of_decide_eq_true (by kernel_rfl)) h0 hg lt0) (trodAll_cons_mk (shut_int Tryd.underlying3 w1) (trodAll_cons_mk (Below.trod laidOut (by kernel_rfl) (of_decide_eq_true (by kernel_rfl)) h2 hg lt2) trodAll_mk0))) (fun _ _ => rfl) (by simp) hg⟩

theorem over : Rows.codeEarlyRow.holds Tryd.pinned (OpenSpec.ofChange Rows.codeEarlySpec) :=
  OpenClaim.holds_of_wide 14 Tryd.f14 rfl rfl rfl rfl rfl rfl rfl ⟨rfl, rfl, rfl, rfl, rfl⟩ rfl rfl rfl rfl rfl (by kernel_rfl) Tryd.func14 (by kernel_rfl)
    (of_decide_eq_true (by kernel_rfl)) (by unfold Func.isWrapper; first | (rw [if_pos (by decide +kernel)]; kernel_rfl) | (rw [if_neg (by decide +kernel)]; exact ⟨rfl, rfl⟩))
    (fun os started H enc _ => lifted os started H enc)

theorem proved : Rows.CodeEarlyCardSaid :=
  Claim7.holds_tied_plain_at .later [] [.data] true Rows.codeEarlyCard.stood.harness true
    over (fun _ h => by cases h) (by kernel_rfl) (fun _ h => by cases h) codeEarly_row_tie rfl ⟨rfl, rfl⟩ (by kernel_rfl) rfl
    (fun f fn hf hfn => by
      obtain rfl : f = 14 := Option.some.inj ((show Tryd.prog.funcNamed "treadmill/treadmilllaw15.CodeEarly" = some 14 by kernel_rfl).symm.trans hf) |>.symm
      obtain rfl : fn = Tryd.f14 := (Option.some.inj (Tryd.func14.symm.trans hfn)).symm
      exact ⟨by kernel_rfl, fun j t ht => by
        rw [Tryd.params14] at ht
        have hm : t ∈ [49, 3, 62] := by simpa using Array.mem_of_getElem? ht
        have hall : ([49, 3, 62].all fun u => !Tryd.prog.wantsStandIn u) = true := by kernel_rfl
        exact (show Tryd.prog.wantsStandIn t = false by simpa using List.all_eq_true.1 hall t hm)⟩)
    (by kernel_rfl)
#print axioms proved
end Go.Proofs.YtapkcjbfflgplaaDoor.codeEarly
