/- What the barrier tells is what was noted, each once: any pairs. No condition. -/
import Derived.Test.YtmngaedcckjfoabHome
import Derived.Test.YtmngaedcckjfoabPairArg
import Derived.Test.YtmngaedcckjfoabPutMore
import Derived.WalkKit
import Derived.ProofKit
import Derived.OpenShut
import Derived.Deep.RegionHeld3
import Derived.Deep.RegionWith
import Derived.Deep.Cut
import Derived.Deep.CutBlock
import Derived.Deep.CutRange
import Derived.Deep.LoopGhost
import Derived.Deep.DeepCutAuto
import Derived.RegionTactic
import Derived.StillTailTactics
namespace Go.Proofs.Ytmngaedcckjfoab.barrierTells
open Go.ChangeShapes Go.WideShapes Go.ChangeAt Go.WideElems Go.RowKit Go.Lib Fx Ho Ba Rw Qu
set_option linter.unusedVariables false

theorem own : ownKnob Try.prog.godebug = none := by kernel_rfl

set_option maxRecDepth 100000 in
set_option maxHeartbeats 4000000 in
theorem walk (v0 : Value) (zb0 : List (Int × Int)) (w : World) (h0 : PairsArg w v0 zb0) :
    Calls Try.prog 5 #[v0] w fun e w' => e = .returned (.bool true) ∧ Below w.heap.size w w' := by
  obtain ⟨sp, cap, rfl, hm, hc⟩ := h0
  obtain ⟨n, hn⟩ : ∃ n, zb0.length = n := ⟨_, rfl⟩
  rw [hn] at hm hc ⊢
  by_cases hbig : (40 : Int) < (n : Int)
  · clear hc
    have ct := Ba.told_any w
    go_enter Try.func5, Try.ntmps5
    go_wp2_with fail
    with_reducible refine Calls.mono (ct) ?_
    rintro e w1 ⟨rfl, hb⟩
    clear ct
    go_wp2_with fail
    go_ret
    exact ⟨rfl, hb⟩
  · have h40 : n ≤ 40 := by omega
    have cn := bb_new w
    obtain ⟨p, hp⟩ : ∃ p, w.heap.size = p := ⟨_, rfl⟩
    rw [hp] at cn
    have hcells : Hid (∀ W, Below w.heap.size w W → ∀ i, i < n → ∃ b off, sp = some ⟨b, off, none⟩ ∧ b < W.heap.size ∧ W.cell? ⟨b, off + i * 2, none⟩ = some (.int .i64 (zb0.getD i (0, 0)).1) ∧ W.cell? ⟨b, off + i * 2 + 1, none⟩ = some (.int .i64 (zb0.getD i (0, 0)).2)) := Lib.hid fun W hb i hi => by
      obtain ⟨b, off, e, hbl, d0, d1⟩ := hc i hi
      exact ⟨b, off, e, Nat.lt_of_lt_of_le hbl hb.size, cell_then hb d0, by have := cell_then hb d1; rwa [← Nat.add_assoc] at this⟩
    replace hp := Lib.hid hp
    clear hc hn
    go_enter Try.func5, Try.ntmps5
    go_wp2_with fail
    with_reducible refine Calls.mono (cn) ?_
    rintro e w1 ⟨rfl, hs1⟩
    have hlt := hs1.b.lt
    replace hs1 := Lib.hid hs1
    clear cn
    go_wp2_with fail
    go_loopw [4, 5, 6] (fun v x y wr => ∃ (k c l : Nat) (s : Option Addr) (cp : Nat) (N : Pairs) (W : List Int), v = .slice s l cp ∧ x = .int .i64 c ∧ y = .int .i64 k ∧ k ≤ n ∧ c ≤ 16 ∧ c ≤ k ∧ p < wr.heap.size ∧ Hid (N.length = c) ∧ Hid (W.length = l) ∧ Hid (Wants N W) ∧ Hid (Bb w wr p N) ∧ Hid (OffRow wr (.slice s l cp) W) ∧ Hid (Low (p + 1) (fun k => (Value.slice s l cp).ownBlock = some k))) (fun _ _ y _ => (n - (RowKit.intOf y).toNat))
    case atStart => exact ⟨0, 0, 0, none, 0, [], [], rfl, rfl, rfl, by omega, by omega, by omega, hlt, Lib.hid rfl, Lib.hid rfl, Lib.hid wants_nil, hs1, Lib.hid (offrow_nil _), Lib.hid (low_nil _)⟩
    case round =>
      clear hs1 hlt
      obtain ⟨k, c, l, s, cp, N, W, rfl, rfl, rfl, k1, c1, ck, hlt, hN, hW, hWa, hS, hR, hLo⟩ := hrel
      by_cases hk : k < n
      · have i2 : (k : Int) < (n : Int) := by omega
        have i0 : (0 : Int) ≤ (k : Int) := by omega
        obtain ⟨b, off, rfl, hbl, d0, d1⟩ := hcells.out wr hS.out.bel k hk
        generalize (zb0.getD k (0, 0)).1 = x at *
        generalize (zb0.getD k (0, 0)).2 = y at *
        have hbx := below_alloc (Below.refl wr.heap.size wr) (.cells #[.int .i64 x, .int .i64 y] 51)
        have x0 : (wr.alloc (.cells #[.int .i64 x, .int .i64 y] 51)).cell? ⟨wr.heap.size, 0, none⟩ = some (.int .i64 x) := cell_of (heap_alloc_new _ _) rfl
        have x1 : (wr.alloc (.cells #[.int .i64 x, .int .i64 y] 51)).cell? ⟨wr.heap.size, 1, none⟩ = some (.int .i64 y) := cell_of (heap_alloc_new _ _) rfl
        have hS1 := Lib.hid (hS.out.below hbx)
        have hR1 := Lib.hid (off_below hR.out hbx)
        have hlt1 := Nat.lt_of_lt_of_le hlt hbx.size
        have hbxs := Lib.hid hbx.size
        clear hS hR hbx
        by_cases hc16 : c < 16
        · have j1 : (c : Int) < 16 := by omega
          by_cases hxy : x = 0 ∧ y = 0
          · obtain ⟨rfl, rfl⟩ := hxy
            have cp := put_zero (by rw [hN.out]; exact hc16) hS1.out.b
            go_wp2_with fail
            with_reducible refine Calls.mono cp ?_
            rintro e w2 ⟨rfl, ht, hr⟩
            have hS2 := Lib.hid (hS1.out.turns ht hr)
            have hR2 := Lib.hid (hR1.out.wrote ht (fun k' hk' e => by have := hLo.out k' hk'; have e : k' = p := e; omega))
            have y0 := ht.cell x0 (fun e => by have e : wr.heap.size = p := e; omega)
            have y1 := ht.cell x1 (fun e => by have e : wr.heap.size = p := e; omega)
            have hlt2 := hr.lt
            clear cp ht hr hS1 hR1 x0 x1 d0 d1 hbl
            go_wp2_with fail
            go_roundw
            case rel => exact ⟨k + 1, c, l, s, cp, N, W, rfl, rfl, by go_num, by omega, by omega, by omega, hlt2, hN, hW, hWa, hS2, hR2, hLo⟩
            case measure => simp [RowKit.intOf]; omega
          · have cq := put_room x y hxy (by rw [hN.out]; exact hc16) hS1.out.b
            have hlen : Hid (W.length ≤ 200) := Lib.hid (by have := hWa.out.2.2; have := hN.out; omega)
            have hwr := Lib.hid hlt
            go_wp2_with fail
            with_reducible refine Calls.mono cq ?_
            rintro e w2 ⟨rfl, ht, hr⟩
            have hS2 := Lib.hid (hS1.out.turns ht hr)
            have hR2 := Lib.hid (hR1.out.wrote ht (fun k' hk' e => by have := hLo.out k' hk'; have e : k' = p := e; omega))
            have y0 := ht.cell x0 (fun e => by have e : wr.heap.size = p := e; omega)
            have y1 := ht.cell x1 (fun e => by have e : wr.heap.size = p := e; omega)
            have hlt2 := hr.lt
            have hP : Hid (∀ V : World, V.heap = w2.heap → V.os = w2.os → V.tape = w2.tape → V.output = w2.output → Calls Try.prog 34 #[.slice s l cp, .int .i64 x] V fun e w3 => ∃ v', e = .returned v' ∧ w3.cell? ⟨wr.heap.size, 0, none⟩ = some (.int .i64 x) ∧ w3.cell? ⟨wr.heap.size, 1, none⟩ = some (.int .i64 y) ∧
                Hid (∀ V' : World, V'.heap = w3.heap → V'.os = w3.os → V'.tape = w3.tape → V'.output = w3.output → Calls Try.prog 34 #[v', .int .i64 y] V' fun e w4 => ∃ (s4 : Option Addr) (l4 c4 : Nat), e = .returned (.slice s4 l4 c4) ∧ p < w4.heap.size ∧ Hid (Bb w w4 p (N ++ [(x, y)])) ∧ Hid (OffRow w4 (.slice s4 l4 c4) (putL (putL W x) y)) ∧ Hid ((putL (putL W x) y).length = l4) ∧ Hid (Low (p + 1) (fun k => (Value.slice s4 l4 c4).ownBlock = some k)))) := Lib.hid fun V e1 e2 e3 e4 => by
              have hb := below_same e1 e2 e3 e4
              refine (put_list (x := x) (off_below hR2.out hb) hLo.out (Nat.le_trans hlt2 hb.size) (by have := hlen.out; omega)).mono ?_
              rintro _ w3 ⟨v', rfl, g1, g2, g3⟩
              have hb3 : Below w2.heap.size w2 w3 := hb.trans (g3.mono hb.size)
              refine ⟨v', rfl, cell_then hb3 y0, cell_then hb3 y1, Lib.hid fun V' f1 f2 f3 f4 => ?_⟩
              have hb' := below_same f1 f2 f3 f4
              refine (put_list (x := y) (off_below g1 hb') g2 (Nat.le_trans hlt2 (Nat.le_trans hb3.size hb'.size)) (by have := putL_len x W; have := hlen.out; omega)).mono ?_
              rintro _ w4 ⟨v4, rfl, k1, k2, k3⟩
              have hb4 : Below w2.heap.size w2 w4 := hb3.trans ((hb'.trans (k3.mono hb'.size)).mono hb3.size)
              obtain ⟨s4, c4, rfl⟩ := k1.slice
              exact ⟨s4, _, c4, rfl, Nat.lt_of_lt_of_le hlt2 hb4.size, Lib.hid (hS2.out.below hb4), Lib.hid k1, Lib.hid rfl, Lib.hid k2⟩
            have hWb := Lib.hid (hWa.out.more x y)
            have hN2 : Hid ((N ++ [(x, y)]).length = c + 1) := Lib.hid (by rw [List.length_append, List.length_singleton, hN.out])
            clear cq ht hr hS1 hR1 hS2 hR2 x0 x1 d0 d1 hbl hLo hW hWa hN hlen
            have hxy2 : x = 0 → ¬ y = 0 := fun e e2 => hxy ⟨e, e2⟩
            clear hxy
            by_cases hx : x = 0
            · have hy : ¬ y = 0 := hxy2 hx
              have hyd : (y == 0) = false := by rw [beq_eq_false_iff_ne]; exact hy
              have hxd : (x == 0) = true := by rw [hx]; rfl
              replace hx := Lib.hid hx
              clear hxy2
              go_wp2_with fail
              go_region_with (first | (go_at_call 34; ((refine Calls.mono (hQ.out _ (by rfl) (by rfl) (by rfl) (by rfl)) ?_); rintro e w4 ⟨s4, l4, c4, rfl, hlt4, hS4, hR4, hW4, hLo4⟩)) | (go_at_call 34; ((refine Calls.mono (hP.out _ (by rfl) (by rfl) (by rfl) (by rfl)) ?_); rintro e w3 ⟨v', rfl, z0, z1, hQ⟩)))
              all_goals
                go_wp2_with fail
                go_roundw
                case rel => exact ⟨k + 1, c + 1, l4, s4, c4, _, _, rfl, by go_num, by go_num, by omega, by omega, by omega, hlt4, hN2, hW4, hWb, hS4, hR4, hLo4⟩
                case measure => simp [RowKit.intOf]; omega
            · have hxd : (x == 0) = false := by rw [beq_eq_false_iff_ne]; exact hx
              clear hxy2
              go_wp2_with fail
              go_region_with (first | (go_at_call 34; ((refine Calls.mono (hQ.out _ (by rfl) (by rfl) (by rfl) (by rfl)) ?_); rintro e w4 ⟨s4, l4, c4, rfl, hlt4, hS4, hR4, hW4, hLo4⟩)) | (go_at_call 34; ((refine Calls.mono (hP.out _ (by rfl) (by rfl) (by rfl) (by rfl)) ?_); rintro e w3 ⟨v', rfl, z0, z1, hQ⟩)))
              all_goals
                go_wp2_with fail
                go_roundw
                case rel => exact ⟨k + 1, c + 1, l4, s4, c4, _, _, rfl, by go_num, by go_num, by omega, by omega, by omega, hlt4, hN2, hW4, hWb, hS4, hR4, hLo4⟩
                case measure => simp [RowKit.intOf]; omega
        · have j1 : ¬ ((c : Int) < 16) := by omega
          have j2 : (16 : Int) ≤ (c : Int) := by omega
          have cq := put_full x y (by rw [hN.out]; omega) hS1.out.b
          go_wp2_with fail
          with_reducible refine Calls.mono cq ?_
          rintro e w2 ⟨rfl, e2⟩
          subst e2
          clear cq x0 x1 d0 d1 hbl
          go_wp2_with fail
          go_roundw
          case rel => exact ⟨k + 1, c, l, s, cp, N, W, rfl, rfl, by go_num, by omega, by omega, by omega, hlt1, hN, hW, hWa, hS1, hR1, hLo⟩
          case measure => simp [RowKit.intOf]; omega
      · obtain rfl : k = n := by omega
        have i2 : ¬ ((k : Int) < (k : Int)) := by omega
        have co := out_list (x := 0) hR.out hWa.out.1 hLo.out hlt (by have := hWa.out.2.2; have := hN.out; omega)
        clear hcells
        go_wp2_with fail
        with_reducible refine Calls.mono co ?_
        rintro e w2 ⟨v2, bo, W2, rfl, g1, g2, g3, g4, g5, g6⟩
        have hS2 := Lib.hid (hS.out.below g3)
        have hgw : Hid (gotL (names N) = W2) := Lib.hid (got_want hWa.out g4 g5)
        obtain ⟨s2, c2, rfl⟩ := g1.slice
        have hR2 := Lib.hid g1
        have hL2 := Lib.hid g2
        have cl := Ba.len_any hS2.out.b
        rw [hN.out] at cl
        have hnl : Hid ((names N).length ≤ 40) := Lib.hid (by have h1 := names_len N N.length (Nat.le_refl _); rw [List.take_length] at h1; have := hN.out; omega)
        clear co g1 g2 g3 g4 g5 g6 hR hS hLo hWa hN hW
        generalize W2.length = l2 at *
        go_wp2_with fail
        with_reducible refine Calls.mono cl ?_
        rintro e w3 ⟨rfl, e3⟩
        subst e3
        have cf := bb_flush hS2.out
        clear cl
        go_wp2_with fail
        with_reducible refine Calls.mono cf ?_
        rintro e w3 ⟨v3, rfl, hS3, f1, f2, f3⟩
        obtain ⟨m, hm2⟩ : ∃ m, (names N).length = m := ⟨_, rfl⟩
        obtain ⟨s3, c3, rfl⟩ := off_slice f1 hm2
        have hm40 : m ≤ 40 := by have := hnl.out; omega
        have hR3 := Lib.hid (hR2.out.wrote f3 (fun k' hk' e => by have := hL2.out k' hk'; have e : k' = p := e; omega))
        have hcell2 : Hid (∀ W, Below w3.heap.size w3 W → ∀ i, i < m → ∃ b off, s3 = some ⟨b, off, none⟩ ∧ W.cell? ⟨b, off + i, none⟩ = some (.int .i64 ((names N).getD i 0))) := Lib.hid fun W hb i hi => by
          obtain ⟨sp', cap', e, _, hc⟩ := f1.ints
          obtain ⟨b, off, e2, _, _, k1⟩ := hc i (by omega)
          injection e with e1
          exact ⟨b, off, by rw [e1]; exact e2, cell_then hb k1⟩
        have hmm := Lib.hid hm2
        replace hS3 := Lib.hid hS3
        clear cf f1 f2 f3 hS2 hR2 hL2 hm2 hnl
        go_wp2_with fail
        go_loopw [9, 10] (fun u x wr => ∃ (i l : Nat) (s : Option Addr) (cp : Nat) (G : List Int), u = .slice s l cp ∧ x = .int .i64 i ∧ i ≤ m ∧ Hid (G = gotL ((names N).take i)) ∧ Hid (OffRow wr (.slice s l cp) G) ∧ Hid (Low w3.heap.size (fun k => (Value.slice s l cp).ownBlock = some k)) ∧ Hid (Below w3.heap.size w3 wr)) (fun _ x _ => (m - (RowKit.intOf x).toNat))
        case atStart => exact ⟨0, 0, none, 0, [], rfl, rfl, by omega, Lib.hid rfl, Lib.hid (offrow_nil _), Lib.hid (low_nil _), Lib.hid (Below.refl _ _)⟩
        case round =>
          obtain ⟨i, l9, s9, cp9, G, rfl, rfl, j1, hG, hRG, hLG, hB⟩ := hrel
          by_cases hi : i < m
          · have j2 : (i : Int) < (m : Int) := by omega
            have j0 : (0 : Int) ≤ (i : Int) := by omega
            obtain ⟨b, off, rfl, d0⟩ := hcell2.out _ hB.out i hi
            have hno : (names N).getD i 0 ∉ G := by rw [hG.out]; exact got_fresh (names_nodup N) (by rw [hmm.out]; exact hi)
            have ch := has_any ((names N).getD i 0) hRG.out.ints
            rw [decide_eq_false hno] at ch
            have cp := put_list (x := (names N).getD i 0) hRG.out hLG.out hB.out.size (by rw [hG.out]; have h1 := got_len ((names N).take i); rw [List.length_take] at h1; omega)
            have hG2 : Hid (putL G ((names N).getD i 0) = gotL ((names N).take (i + 1))) := Lib.hid (by rw [got_more (by rw [hmm.out]; exact hi), hG.out])
            generalize (names N).getD i 0 = x at *
            clear hno hRG hLG hG
            go_wp2_with fail
            with_reducible refine Calls.mono ch ?_
            rintro e w5 ⟨rfl, e5⟩
            subst e5
            clear ch
            go_wp2_with fail
            with_reducible refine Calls.mono cp ?_
            rintro e w5 ⟨v5, rfl, q1, q2, q3⟩
            obtain ⟨s5, c5, rfl⟩ := q1.slice
            have hB5 := Lib.hid (hB.out.trans (q3.mono hB.out.size))
            replace q1 := Lib.hid q1
            replace q2 := Lib.hid q2
            clear cp q3
            go_wp2_with fail
            go_roundw
            case rel => exact ⟨i + 1, _, s5, c5, _, rfl, by go_num, by omega, hG2, q1, q2, hB5⟩
            case measure => simp [RowKit.intOf]; omega
          · obtain rfl : i = m := by omega
            have j2 : ¬ ((i : Int) < (i : Int)) := by omega
            have hGe : Hid (G = W2) := Lib.hid (by rw [hG.out, ← hmm.out, List.take_length]; exact hgw.out)
            have ct := Ba.told_any wr
            clear hG hcell2 hmm hgw
            go_wp2_with fail
            with_reducible refine Calls.mono ct ?_
            rintro e w6 ⟨rfl, hb6⟩
            clear ct
            have hB6 : Below w3.heap.size w3 w6 := hB.out.trans (hb6.mono hB.out.size)
            have hRG6 := off_below hRG.out hb6
            rw [hGe.out] at hRG6
            have ci := ints_any hRG6.ints (off_below hR3.out hB6).ints
            have hS6 := Lib.hid (hS3.out.below hB6)
            clear hB hB6 hb6 hRG hLG hGe hRG6 hR3
            go_wp2_with fail
            with_reducible refine Calls.mono ci ?_
            rintro e w7 ⟨rfl, m7, rfl⟩
            clear ci
            have hS7 := Lib.hid (hS6.out.below (below_drewN (Below.refl _ _) m7))
            generalize w6.drewN m7 = w7 at *
            have cl := Ba.len_any hS7.out.b
            rw [show ((([] : Pairs).length : Nat) : Int) = 0 from rfl] at cl
            have cf := bb_flush hS7.out
            go_wp2_with fail
            with_reducible refine Calls.mono cl ?_
            rintro e w8 ⟨rfl, e8⟩
            subst e8
            clear cl
            go_wp2_with fail
            with_reducible refine Calls.mono cf ?_
            rintro e w8 ⟨v8, rfl, hS8, f1, f2, f3⟩
            obtain ⟨s8, c8, rfl⟩ := off_slice (n := 0) f1 rfl
            have hbl := hS8.bel
            clear cf f1 f2 f3 hS7 hS6 hS3
            go_wp2_with fail
            go_ret
            exact ⟨rfl, hbl⟩

set_option maxRecDepth 100000 in
theorem lifted (os : Os) (started : os.Started) (H : Type) (enc : TypeId × Value → H) :
    ReturnsInHanded {} Try.checked os 5 .any (Rows.barrierTellsSpec.pre6 enc Try.prog Try.f5 Rows.barrierTellsRow.domain false) (Rows.barrierTellsSpec.post enc Try.prog Try.f5 false true false false) := by
  refine returnsInHanded_of_change (C := Try.checked) own started (by kernel_rfl) Try.func5
    (ChangeSpec.witness6 (enc := enc) (C := Try.checked) false ⟨#[], #[.slice none 0 0], []⟩ 8 (by kernel_rfl) (by kernel_rfl) (by kernel_rfl) (by kernel_rfl)) ?_
  intro W base args ds gs before hval0 hW hcnd _
  have hval : ∀ (j : Nat) t v, Try.f5.params[j]? = some t → args[j]? = some v → Value.okWide Try.prog W .any base t v := hval0
  have hW' := hW
  obtain ⟨p, q, hA0, hV, rfl, hfz, hnd⟩ := hW
  have hA : DataW.TrodAll enc Try.prog W 0 (fun _ => true) true Try.f5.params.toList args.toList ds p := hA0
  rw [Try.params5] at hA hval
  obtain ⟨v0, vs0, d0, ds0, p0, q0, hargs, rfl, rfl, h0, r0⟩ := trodAll_cons hA
  obtain ⟨rfl, rfl, rfl⟩ := trodAll_nil r0
  obtain rfl : args = #[v0] := by cases args; simp_all
  obtain ⟨rfl, rfl⟩ := trodVars_none hV
  obtain ⟨zb0, i0⟩ := pairs_arg (hval 0 42 v0 rfl rfl) h0
  clear hA0 hval0
  simp only [List.append_nil] at hW'
  have lt0 : ∀ x ∈ p0, x.block < W.heap.size := fun x hx => by have := hW'.lt x (by simp [hx]); simpa using this
  refine (walk v0 zb0 W i0).mono fun e W' ⟨he, hg⟩ => ?_
  subst he
  exact ⟨_, rfl, post_of_kept (pa := _) (pv := []) hW' (fun _ _ _ => (trodAll_cons_mk (shut_bool Try.underlying4 _) trodAll_mk0)) (trodAll_cons_mk (Below.trod laidOut (by kernel_rfl) (of_decide_eq_true (by kernel_rfl)) h0 hg lt0) trodAll_mk0) (fun _ _ => rfl) (by simp) hg⟩

theorem over : Rows.barrierTellsRow.holds Try.pinned (OpenSpec.ofChange Rows.barrierTellsSpec) :=
  OpenClaim.holds_of_wide 5 Try.f5 rfl rfl rfl rfl rfl rfl rfl ⟨rfl, rfl, rfl, rfl, rfl⟩ rfl rfl rfl rfl rfl (by kernel_rfl) Try.func5 (by kernel_rfl)
    (of_decide_eq_true (by kernel_rfl)) (by unfold Func.isWrapper; first | (rw [if_pos (by decide +kernel)]; kernel_rfl) | (rw [if_neg (by decide +kernel)]; exact ⟨rfl, rfl⟩))
    (fun os started H enc _ => lifted os started H enc)

theorem proved : Rows.BarrierTellsSaid :=
  over
#print axioms proved
end Go.Proofs.Ytmngaedcckjfoab.barrierTells
