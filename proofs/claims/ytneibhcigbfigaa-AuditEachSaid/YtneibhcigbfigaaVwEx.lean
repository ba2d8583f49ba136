/- View: going along all ways (view.explore). -/
import Derived.Test.YtneibhcigbfigaaVwExM
import Derived.WalkMore
namespace Go.Proofs.Ytneibhcigbfigaa
open Go.RowKit Go.Lib Fx Ho Gr
set_option linter.unusedVariables false
namespace Vw
variable {B w w' W : World} {p b1 b2 n1 n2 i j k n : Nat} {v vg vs vo ov lv : Value} {O lost pre rs : List Int} {a x y : Int} {os : List Ob} {L : List Ent} {V : Vi}
/-- The walk's object as it is made. -/
theorem wk_new (hb : Below B.heap.size B w) (vo : Value) : Wk B (((w.alloc (.map #[] 0)).alloc (.map #[] 0)).alloc (.cells #[vo, .map (some w.heap.size), .map (some (w.heap.size + 1)), .slice none 0 0, .slice none 0 0] 88)) (w.heap.size + 1 + 1) w.heap.size (w.heap.size + 1) vo (.slice none 0 0) (.slice none 0 0) 0 0 (fun _ => none) (fun _ => none) [] [] := by
  have h1 := Mp.omade w
  have h2 := Mp.omade (w.alloc (.map #[] 0))
  have hs1 := s_alloc w (.map #[] 0)
  have hs2 := s_alloc (w.alloc (.map #[] 0)) (.map #[] 0)
  have hB := hb.size
  have h3 := heap_alloc_new ((w.alloc (.map #[] 0)).alloc (.map #[] 0)) (.cells #[vo, .map (some w.heap.size), .map (some (w.heap.size + 1)), .slice none 0 0, .slice none 0 0] 88)
  rw [hs2, hs1] at h3
  rw [hs1] at h2
  have q2 := below_alloc (Below.refl _ (w.alloc (.map #[] 0))) (.map #[] 0)
  have q3 := below_alloc (Below.refl _ ((w.alloc (.map #[] 0)).alloc (.map #[] 0))) (.cells #[vo, .map (some w.heap.size), .map (some (w.heap.size + 1)), .slice none 0 0, .slice none 0 0] 88)
  refine ⟨h3, (h1.below q2).below q3, h2.below q3, grow_nil 1 _, grow_nil 1 _, ⟨by omega, by omega, by omega, (fun e => by cases e), (fun e => by cases e), (fun e => by cases e), (fun e => by cases e), (fun e => by cases e), (fun e => by cases e), (fun k hk => by cases hk)⟩, ⟨by omega, by omega, by omega, (fun k hk => by cases hk), (fun k hk => by cases hk)⟩, hb.trans ((below_alloc (below_alloc (below_alloc (Below.refl _ w) _) _) _).mono hB)⟩
set_option maxRecDepth 100000 in
set_option maxHeartbeats 8000000 in
theorem explore_any (h : IsV w V vg vs vo) (hf : Fw V) (till : Int) : Calls Try.prog 65 #[vv V vg vs vo, .int .i64 till] w (ExR w V vo till) := by
  obtain ⟨W1, hW1⟩ : ∃ W1, w.alloc (.cells #[.int .i64 V.ph, .int .i64 V.cy, .int .i64 V.ck, vg, vs, vo, .int .i64 V.gr, .int .i64 V.nt, .int .i64 V.rt] 32) = W1 := ⟨_, rfl⟩
  have hb1 := below_alloc (Below.refl _ w) (.cells #[.int .i64 V.ph, .int .i64 V.cy, .int .i64 V.ck, vg, vs, vo, .int .i64 V.gr, .int .i64 V.nt, .int .i64 V.rt] 32)
  have k1 := heap_alloc_new w (.cells #[.int .i64 V.ph, .int .i64 V.cy, .int .i64 V.ck, vg, vs, vo, .int .i64 V.gr, .int .i64 V.nt, .int .i64 V.rt] 32)
  rw [hW1] at hb1 k1
  have h1 := h.below hb1
  have hsz : W1.heap.size = w.heap.size + 1 := by rw [← hW1, s_alloc]
  have hwk := wk_new (Below.refl _ W1) vo
  obtain ⟨W4, hW4⟩ : ∃ W4, ((W1.alloc (.map #[] 0)).alloc (.map #[] 0)).alloc (.cells #[vo, .map (some W1.heap.size), .map (some (W1.heap.size + 1)), .slice none 0 0, .slice none 0 0] 88) = W4 := ⟨_, rfl⟩
  rw [hW4] at hwk
  have hs2 : (W1.alloc (.map #[] 0)).heap.size = W1.heap.size + 1 := s_alloc _ _
  have hs3 : ((W1.alloc (.map #[] 0)).alloc (.map #[] 0)).heap.size = W1.heap.size + 1 + 1 := by rw [s_alloc, s_alloc]
  have c5a : W1.cell? ⟨w.heap.size, 5, none⟩ = some vo := cell_of k1 rfl
  have c5 : W4.cell? ⟨w.heap.size, 5, none⟩ = some vo := cell_then hwk.bel (cell_of k1 rfl)
  obtain ⟨sp, cap, rfl, hmx, hos⟩ := id h1.os
  obtain ⟨m, hm0⟩ : ∃ m, V.os.length = m := ⟨_, rfl⟩
  have hm40 : m ≤ 40 := by rw [← hm0]; exact hf.os
  have hat : Hid (∀ i, i < m → ∃ b off sv, sp = some ⟨b, off, none⟩ ∧ W1.cell? ⟨b, off + i * 3, none⟩ = some (.int .i64 (V.os.getD i o0).1) ∧ W1.cell? ⟨b, off + i * 3 + 1, none⟩ = some sv ∧ W1.cell? ⟨b, off + i * 3 + 2, none⟩ = some (.bool (V.os.getD i o0).2.2) ∧ (∃ sp2 n3 p2, sv = .slice sp2 n3 p2) ∧ WfI (V.os.getD i o0).1) := Lib.hid fun i hi => by
    obtain ⟨b, off, sv, e1, _, e3, e4, e5, e6⟩ := hos i (by omega)
    obtain ⟨sp2, p2, e7, _⟩ := e6
    exact ⟨b, off, sv, e1, e3, e4, e5, ⟨sp2, _, p2, e7⟩, h1.wf.oa _ (getD_mem o0 (by omega))⟩
  have hst1 : Hid (∃ n1, n1 ≤ 0 ∧ Wk W1 W4 (W1.heap.size + 1 + 1) W1.heap.size (W1.heap.size + 1) (.slice sp V.os.length cap) (.slice none 0 0) (.slice none 0 0) n1 0 (mI (V.os.take 0)) (fun _ => none) [] []) := Lib.hid ⟨0, Nat.le_refl _, hwk⟩
  have hh1 := Lib.hid h1
  have hh0 := Lib.hid h
  replace hf := Lib.hid hf
  replace hb1 := Lib.hid hb1
  replace hsz := Lib.hid hsz
  rw [hm0] at hst1 c5 c5a
  have hmm := @run_makeMap Try.prog
  unfold vv
  replace k1 := Lib.hid k1
  clear h h1 hwk hos
  rw [hm0] at hW1 hW4 hmx ⊢
  replace hm0 := Lib.hid hm0
  go_enter Try.func65, Try.ntmps65
  go_upto_region 1 with fail
  try rw [hW1]
  clear hW1
  go_step3
  go_upto_region 2 with fail
  try rw [hs3]
  try rw [hs2]
  try rw [hW4]
  clear hmm hW4 hs2 hs3 c5a
  go_wp2_with fail
  obtain ⟨P, hP⟩ : ∃ P, W1.heap.size + 1 + 1 = P := ⟨_, rfl⟩
  obtain ⟨B1, hB1⟩ : ∃ P, W1.heap.size = P := ⟨_, rfl⟩
  obtain ⟨B2, hB2⟩ : ∃ P, W1.heap.size + 1 = P := ⟨_, rfl⟩
  rw [hP, hB2, hB1] at hst1
  try rw [hP]
  try rw [hB2]
  clear hP hB2
  replace hB1 := Lib.hid hB1
  go_loopw [24] (fun u wr => ∃ i : Nat, u = .int .i64 i ∧ i ≤ m ∧ Hid (∃ n1, n1 ≤ i ∧ Wk W1 wr P B1 B2 (.slice sp m cap) (.slice none 0 0) (.slice none 0 0) n1 0 (mI (V.os.take i)) (fun _ => none) [] [])) (fun u _ => (m - (RowKit.intOf u).toNat))
  case atStart => exact ⟨0, rfl, by omega, hst1⟩
  case round =>
    obtain ⟨i, rfl, him, hra⟩ := hrel
    clear hst1 c5
    have i0 : (0 : Int) ≤ (i : Int) := by omega
    obtain ⟨n1, hn1, hwk⟩ := hra.out
    by_cases hlt : i < m
    · have i2 : (i : Int) < (m : Int) := by omega
      obtain ⟨b, off, sv, rfl, e3, e4, e5, ⟨sp2, n3, p2, rfl⟩, e7⟩ := hat.out i hlt
      have d3 := (hwk.bel.cell (World.block_lt_of_cell? _ _ e3)).trans e3
      have d4 := (hwk.bel.cell (World.block_lt_of_cell? _ _ e4)).trans e4
      have d5 := (hwk.bel.cell (World.block_lt_of_cell? _ _ e5)).trans e5
      obtain ⟨oa, hoa⟩ : ∃ oa, (V.os.getD i o0).1 = oa := ⟨_, rfl⟩
      obtain ⟨om, hom⟩ : ∃ om, (V.os.getD i o0).2.2 = om := ⟨_, rfl⟩
      rw [hoa] at d3 e7
      rw [hom] at d5
      have hba := below_alloc (Below.refl _ wr) (.cells #[.int .i64 oa, .slice sp2 n3 p2, .bool om] 29)
      have kO := heap_alloc_new wr (.cells #[.int .i64 oa, .slice sp2 n3 p2, .bool om] 29)
      have hwk2 := hwk.below hba
      have hwas : Hid (mI (V.os.take i) oa ≠ none → mI (V.os.take (i + 1)) = mI (V.os.take i)) := Lib.hid fun h => mI_was (by have := hm0.out; omega) (by rw [hoa]; exact h)
      have hnew : Hid (mI (V.os.take i) oa = none → mI (V.os.take (i + 1)) = Mp.upo (mI (V.os.take i)) oa (i : Int)) := Lib.hid fun h => by
        have := mI_new (k := i) (os := V.os) (by have := hm0.out; omega) (by rw [hoa]; exact h)
        rw [hoa] at this
        exact this
      clear hra hwk e3 e4 e5 hoa hom hba
      go_upto_region 5 with fail
      obtain ⟨U, hU⟩ : ∃ U, wr.alloc (.cells #[.int .i64 oa, .slice sp2 n3 p2, .bool om] 29) = U := ⟨_, rfl⟩
      rw [hU] at hwk2 kO
      try rw [hU]
      obtain ⟨N, hN⟩ : ∃ N, wr.heap.size = N := ⟨_, rfl⟩
      rw [hN] at kO
      try rw [hN]
      clear hU hN d3 d4 d5
      have f0 : U.cell? ⟨N, 0, none⟩ = some (.int .i64 oa) := cell_of kO rfl
      have f1 : U.cell? ⟨P, 1, none⟩ = some (.map (some B1)) := cell_of hwk2.head rfl
      have hlk : ∀ n, (Instr.lookup 78 (.map (some B1)) (.int .i64 oa) true).run Try.prog (U.drewN n) = .ok (.tuple #[.int .i64 ((mI (V.os.take i) oa).getD 0), .bool (mI (V.os.take i) oa).isSome]) (U.drewN n) := fun n => by
        have := (hwk2.below (below_drewN (Below.refl _ _) n)).look1 e7 true
        rw [if_pos rfl] at this
        exact this
      have kO := Lib.hid kO
      have hwk3 := Lib.hid hwk2
      clear hwk2
      cases hmi : mI (V.os.take i) oa with
      | none =>
        rw [hmi] at hlk
        change ∀ n, _ = Result.ok (Value.tuple #[.int .i64 0, .bool false]) (U.drewN n) at hlk
        have hmi' := Lib.hid (hnew.out hmi)
        clear hwas hnew hmi
        go_quiet (fail)
        have hwk4 := hwk3.out.below (below_drewN (Below.refl _ _) nq)
        have kO4 : (U.drewN nq).heap[N]? = _ := kO.out
        obtain ⟨U2, hU2⟩ : ∃ U2, U.drewN nq = U2 := ⟨_, rfl⟩
        rw [hU2] at hwk4 kO4 ⊢
        clear hU2 hwk3 kO hlk f0 f1
        have f0 : U2.cell? ⟨N, 0, none⟩ = some (.int .i64 oa) := cell_of kO4 rfl
        have f1 : U2.cell? ⟨P, 1, none⟩ = some (.map (some B1)) := cell_of hwk4.head rfl
        replace hwk4 := Lib.hid hwk4
        replace kO4 := Lib.hid kO4
        go_upto_region 7 with fail
        go_still_tail 7, (by kernel_rfl)
        change wpList _ _ _ _ _ U2.drew
        obtain ⟨w6, hrun, h6⟩ := (hwk4.out.below (Below.refl _ _).drew).put1 e7 (by omega) (i : Int)
        obtain ⟨U3, hU3⟩ : ∃ U3, U2.drew = U3 := ⟨_, rfl⟩
        rw [hU3] at hrun ⊢
        have hnx : Hid (∃ n1, n1 ≤ i + 1 ∧ Wk W1 w6 P B1 B2 (.slice (some ⟨b, off, none⟩) m cap) (.slice none 0 0) (.slice none 0 0) n1 0 (mI (V.os.take (i + 1))) (fun _ => none) [] []) := Lib.hid ⟨n1 + 1, by omega, by rw [hmi'.out]; exact h6⟩
        clear hU3 hwk4 kO4 f0 f1 h6 hmi'
        go_wp2_with fail
        go_roundw
        case rel => exact ⟨i + 1, by go_num, by omega, hnx⟩
        case measure => simp [RowKit.intOf]; omega
      | some y =>
        rw [hmi] at hlk
        change ∀ n, _ = Result.ok (Value.tuple #[.int .i64 y, .bool true]) (U.drewN n) at hlk
        have hmi' := Lib.hid (hwas.out (by rw [hmi]; exact fun e => by cases e))
        clear hwas hnew hmi
        go_quiet (fail)
        have hnx : Hid (∃ n1, n1 ≤ i + 1 ∧ Wk W1 (U.drewN nq) P B1 B2 (.slice (some ⟨b, off, none⟩) m cap) (.slice none 0 0) (.slice none 0 0) n1 0 (mI (V.os.take (i + 1))) (fun _ => none) [] []) := Lib.hid ⟨n1, by omega, by rw [hmi'.out]; exact hwk3.out.below (below_drewN (Below.refl _ _) nq)⟩
        obtain ⟨U2, hU2⟩ : ∃ U2, U.drewN nq = U2 := ⟨_, rfl⟩
        rw [hU2] at hnx ⊢
        clear hU2 hwk3 kO hlk f0 f1 hmi'
        go_wp2_with fail
        go_roundw
        case rel => exact ⟨i + 1, by go_num, by omega, hnx⟩
        case measure => simp [RowKit.intOf]; omega
    · obtain rfl : m = i := by omega
      have hwk0 : Wk W1 wr P B1 B2 (.slice sp m cap) (.slice none 0 0) (.slice none 0 0) n1 0 (mI V.os) (fun _ => none) [] [] := by
        rw [List.take_of_length_le (by have := hm0.out; omega)] at hwk
        exact hwk
      have g0 := (hwk0.bel.cell (World.block_lt_of_cell? _ _ (cell_of k1.out (j := 0) rfl))).trans (cell_of k1.out (j := 0) rfl)
      have g1 := (hwk0.bel.cell (World.block_lt_of_cell? _ _ (cell_of k1.out (j := 1) rfl))).trans (cell_of k1.out (j := 1) rfl)
      have g2 := (hwk0.bel.cell (World.block_lt_of_cell? _ _ (cell_of k1.out (j := 2) rfl))).trans (cell_of k1.out (j := 2) rfl)
      have g3 := (hwk0.bel.cell (World.block_lt_of_cell? _ _ (cell_of k1.out (j := 3) rfl))).trans (cell_of k1.out (j := 3) rfl)
      have g4 := (hwk0.bel.cell (World.block_lt_of_cell? _ _ (cell_of k1.out (j := 4) rfl))).trans (cell_of k1.out (j := 4) rfl)
      have g5 := (hwk0.bel.cell (World.block_lt_of_cell? _ _ (cell_of k1.out (j := 5) rfl))).trans (cell_of k1.out (j := 5) rfl)
      have g6 := (hwk0.bel.cell (World.block_lt_of_cell? _ _ (cell_of k1.out (j := 6) rfl))).trans (cell_of k1.out (j := 6) rfl)
      have g7 := (hwk0.bel.cell (World.block_lt_of_cell? _ _ (cell_of k1.out (j := 7) rfl))).trans (cell_of k1.out (j := 7) rfl)
      have g8 := (hwk0.bel.cell (World.block_lt_of_cell? _ _ (cell_of k1.out (j := 8) rfl))).trans (cell_of k1.out (j := 8) rfl)
      rw [hm0.out] at g5
      have cr := roots_any (hh1.out.below hwk0.bel) hf.out
      unfold vv at cr
      rw [hm0.out] at cr
      have st2 : Hid (St W1 wr V P B1 B2 (.slice sp m cap) (.slice none 0 0) (.slice none 0 0) n1 0 [] [] 0 []) := Lib.hid ⟨hwk0, bf_start _ _, Nat.zero_le _, Nat.zero_le _⟩
      have hRs : Hid (∀ w2, Below wr.heap.size wr w2 → Below w.heap.size w w2) := Lib.hid fun w2 hb => hb1.out.trans ((hwk0.bel.trans (hb.mono hwk0.bel.size)).mono hb1.out.size)
      clear hra hwk hwk0 hat k1
      go_wp2_with fail
      with_reducible refine Calls.mono cr ?_
      rintro e w5 ⟨nv, rfl, hnv, hb5⟩
      have st3 : Hid (St W1 w5 V P B1 B2 (.slice sp m cap) (.slice none 0 0) (.slice none 0 0) n1 0 [] [] 0 [] ∧ Ints w5 Any nv (src (rootsL V.gl V.gs) V.os [] 0)) := Lib.hid ⟨st2.out.below hb5, hnv.wider (fun _ _ _ => trivial)⟩
      clear cr hnv hb5 st2 g0 g1 g2 g3 g4 g5 g6 g7 g8 hRs
      go_wp2_with fail
      go_step3
      go_wp2_with fail
      replace hb1 := Lib.hid hb1.out
      have hLen : Hid (∀ L lost i pre, Bf (rootsL V.gl V.gs) V.os L lost i pre → L.length ≤ 40 ∧ i ≤ L.length) := Lib.hid fun L lost i pre hB => ⟨by have := hB.few; have := hm0.out; omega, hB.il⟩
      have hfin : Hid (∀ wz ov lv n1 n2 L lost i pre, St W1 wz V P B1 B2 (.slice sp m cap) ov lv n1 n2 L lost i pre → Fin V till L lost i pre → pre.length ≤ 2000 → ExR w V (.slice sp m cap) till (.returned (.pointer (some ⟨P, 0, none⟩))) wz) := Lib.hid fun wz ov lv n1 n2 L lost i pre h1 h2 h3 => by
        have e1 := hLen.out _ _ _ _ h1.bf
        exact ⟨P, B1, B2, ov, lv, n1, n2, L, lost, i, pre, rfl, h1.wk.base hb1.out, h2, e1.1, by have := h1.lo; omega⟩
      go_loopw [10, 11, 12] (fun u10 u11 u12 wr => ∃ (nv : Value) (k : Nat) (A : Int), u10 = nv ∧ u11 = .int .i64 A ∧ u12 = .int .i64 k ∧ k ≤ 40 ∧ Hid (∃ ov lv n1 n2 L lost, St W1 wr V P B1 B2 (.slice sp m cap) ov lv n1 n2 L lost k [] ∧ Ints wr Any nv (src (rootsL V.gl V.gs) V.os L k) ∧ ahd L k = A)) (fun _ _ u _ => (41 - (RowKit.intOf u).toNat))
      case atStart => exact ⟨nv, 0, 0, rfl, rfl, rfl, by omega, Lib.hid ⟨_, _, _, _, [], [], st3.out.1, st3.out.2, rfl⟩⟩
      case round =>
        obtain ⟨nv, k, A, rfl, rfl, rfl, hk40, hst⟩ := hrel
        clear st3
        obtain ⟨ov, lv, n1, n2, L, lost, hS, hnv, hA⟩ := hst.out
        have k0 : (0 : Int) ≤ (k : Int) := by omega
        have hsl := src_len (L := L) (i := k) hf.out
        have cr := rising_any hnv (by omega)
        obtain ⟨S0, hS0⟩ : ∃ S0, src (rootsL V.gl V.gs) V.os L k = S0 := ⟨_, rfl⟩
        have hwf : Hid (∀ x, x ∈ S0 → WfI x) := Lib.hid fun x hx => src_wf (i := k) (L := L) hh0.out.wf (by rw [hS0]; exact hx)
        have hst2 : Hid (St W1 wr V P B1 B2 (.slice sp m cap) ov lv n1 n2 L lost k [] ∧ src (rootsL V.gl V.gs) V.os L k = S0 ∧ ahd L k = A) := Lib.hid ⟨hS, hS0, hA⟩
        rw [hS0] at cr hsl
        have hlow : Hid (∀ q, Hw P B1 B2 ov lv q → q < wr.heap.size) := Lib.hid fun q hq => hS.wk.lt hq
        clear hst hS hnv hA hS0
        go_wp2_with fail
        with_reducible refine Calls.mono cr ?_
        rintro e w5 ⟨rv, rs, rfl, hris, hrow, hrl, hb5⟩
        clear cr
        obtain ⟨spr, cpr, rfl, hrm, hrc⟩ := hrow
        obtain ⟨n, hn⟩ : ∃ n, rs.length = n := ⟨_, rfl⟩
        have hn2 : n ≤ 1640 := by omega
        have st5 : Hid (∃ ov lv n1 n2 L lost, St W1 w5 V P B1 B2 (.slice sp m cap) ov lv n1 n2 L lost k (rs.take 0) ∧ src (rootsL V.gl V.gs) V.os L k = S0 ∧ ahd L k = A ∧ Ints w5 (fun q => wr.heap.size ≤ q ∧ q < w5.heap.size) (.slice spr n cpr) rs ∧ ∀ q, wr.heap.size ≤ q → ¬ Hw P B1 B2 ov lv q) := Lib.hid ⟨ov, lv, n1, n2, L, lost, hst2.out.1.below hb5, hst2.out.2.1, hst2.out.2.2, ⟨spr, cpr, by rw [hn], by omega, fun t ht => by
          obtain ⟨bx, ox, fx, gx, hx2, ix⟩ := hrc t ht
          exact ⟨bx, ox, fx, ⟨gx, hx2⟩, hx2, ix⟩⟩, fun q h1 h2 => by have := hlow.out q h2; omega⟩
        rw [hn] at hrm ⊢
        replace hn := Lib.hid hn
        replace hris := Lib.hid hris
        obtain ⟨Z, hZ⟩ : ∃ Z, wr.heap.size = Z := ⟨_, rfl⟩
        rw [hZ] at st5
        obtain ⟨Z2, hZ2⟩ : ∃ Z2, w5.heap.size = Z2 := ⟨_, rfl⟩
        rw [hZ2] at st5
        replace hZ2 := Lib.hid hZ2
        clear hst2 hlow hrc hb5 hZ hrl hsl
        go_wp2_with fail
        go_loopw [56] (fun u wz => ∃ j : Nat, u = .int .i64 j ∧ j ≤ n ∧ Hid (∃ ov lv n1 n2 L lost, St W1 wz V P B1 B2 (.slice sp m cap) ov lv n1 n2 L lost k (rs.take j) ∧ src (rootsL V.gl V.gs) V.os L k = S0 ∧ ahd L k = A ∧ Ints wz (fun q => Z ≤ q ∧ q < Z2) (.slice spr n cpr) rs ∧ (∀ q, Z ≤ q → q < Z2 → ¬ Hw P B1 B2 ov lv q) ∧ Z2 ≤ wz.heap.size)) (fun u _ => (n - (RowKit.intOf u).toNat))
        case atStart =>
          obtain ⟨ov, lv, n1, n2, L, lost, h1, h2, h3, h4, h5⟩ := st5.out
          exact ⟨0, rfl, by omega, Lib.hid ⟨ov, lv, n1, n2, L, lost, h1, h2, h3, h4, fun q e1 _ => h5 q e1, by rw [hZ2.out]; exact Nat.le_refl _⟩⟩
        case round =>
          obtain ⟨j, rfl, hj, hra⟩ := hrel
          clear st5
          obtain ⟨ov, lv, n1, n2, L, lost, hS, hSr, hSa, hrow, hoff, hZ3⟩ := hra.out
          have j0 : (0 : Int) ≤ (j : Int) := by omega
          obtain ⟨hL1, hL2⟩ := hLen.out _ _ _ _ hS.bf
          by_cases hlt : j < n
          · have j2 : (j : Int) < (n : Int) := by omega
            have hjr : j < rs.length := by rw [hn.out]; exact hlt
            obtain ⟨spq, cpq, eq1, -, hrc⟩ := id hrow
            obtain ⟨b, off, e1, e2, e3, cz⟩ := hrc j hjr
            have e4 : spr = spq := by injection eq1
            rw [← e4] at e1
            subst e1
            have hmem := getD_mem (l := rs) 0 hjr
            have hx0 := (hris.out.mem _).1 hmem
            have hlt2 : ∀ z ∈ rs.take j, z < rs.getD j 0 := fun z hz => by
              have hp := hris.out.up
              rw [← List.take_append_drop j rs, List.pairwise_append] at hp
              refine hp.2.2 z hz _ ?_
              rw [List.getD_eq_getElem?_getD, List.getElem?_eq_getElem hjr]
              exact List.mem_drop_iff_getElem.2 ⟨0, by omega, by simp⟩
            have htk : rs.take (j + 1) = rs.take j ++ [rs.getD j 0] := by
              rw [List.take_add_one, List.getElem?_eq_getElem hjr, List.getD_eq_getElem?_getD, List.getElem?_eq_getElem hjr]; rfl
            have hlen2 : (rs.take j).length = j := by rw [List.length_take]; omega
            obtain ⟨x, hx⟩ : ∃ x, rs.getD j 0 = x := ⟨_, rfl⟩
            rw [hx] at cz hx0 hlt2 htk
            have hwx := hwf.out x hx0.1
            obtain ⟨L', lost', v1, v2, v3, v4, v5, v6⟩ := hS.bf.visit (a := x) (by rw [hSr]; exact hx0.1) hx0.2 hlt2
            have hn2 := hS.n2
            have hlo := hS.lo
            rw [hlen2] at hn2 hlo
            have cr := reach_any hS.wk hwx A (by omega) (by unfold Vw.ord; rw [List.length_map]; omega) (by omega)
            have key : Hid (∀ w6, ReachR W1 wr ov lv P B1 B2 (.slice sp m cap) n1 n2 (mI V.os) (parO L) (Vw.ord L) lost x A (.returned (.tuple #[])) w6 → ∃ ov lv n1 n2 L lost, St W1 w6 V P B1 B2 (.slice sp m cap) ov lv n1 n2 L lost k (rs.take (j + 1)) ∧ src (rootsL V.gl V.gs) V.os L k = S0 ∧ ahd L k = A ∧ Ints w6 (fun q => Z ≤ q ∧ q < Z2) (.slice (some ⟨b, off, none⟩) n cpr) rs ∧ (∀ q, Z ≤ q → q < Z2 → ¬ Hw P B1 B2 ov lv q) ∧ Z2 ≤ w6.heap.size) := Lib.hid fun w6 ⟨_, ov', lv', g1, g2⟩ => by
              rw [hSa] at v2
              rw [← v2, ← v3, ← v4] at g1
              refine ⟨ov', lv', n1, n2 + 1, L', lost', ⟨g1, by rw [htk]; exact v1, by rw [htk, List.length_append, hlen2, List.length_singleton]; omega, ?_⟩, v5.trans hSr, v6.trans hSa, ?_, fun q h1 h2 h3 => ?_, Nat.le_trans hZ3 g2.size⟩
              · rw [htk, List.length_append, hlen2, List.length_singleton, v4]
                split
                · rw [List.length_append, List.length_singleton]; omega
                · omega
              · obtain ⟨spx, cpx, ex, hmx2, hcx⟩ := hrow
                refine ⟨spx, cpx, ex, hmx2, fun t ht => ?_⟩
                obtain ⟨bx, ox, fx, gx, hx2, ix⟩ := hcx t ht
                exact ⟨bx, ox, fx, gx, Nat.lt_of_lt_of_le hx2 g2.size, g2.cell ix (hoff bx gx.1 gx.2)⟩
              · rcases g2.home q h3 with e | e
                · exact hoff q h1 h2 e
                · omega
            have hprel : (rs.take (j + 1)).length ≤ 2000 := by rw [List.length_take]; have := hn.out; omega
            have hxin : x ∈ rs.take (j + 1) := by rw [htk]; simp
            have hxw : WfI x := hwx
            have key2 : Hid (∀ w6, ReachR W1 wr ov lv P B1 B2 (.slice sp m cap) n1 n2 (mI V.os) (parO L) (Vw.ord L) lost x A (.returned (.tuple #[])) w6 → x = till → ExR w V (.slice sp m cap) till (.returned (.pointer (some ⟨P, 0, none⟩))) w6) := Lib.hid fun w6 h6 ht => by
              obtain ⟨ov1, lv1, m1, m2, L1, lost1, q1, _⟩ := key.out w6 h6
              exact hfin.out _ _ _ _ _ _ _ _ _ q1 (.inr ⟨q1.bf, by rw [← ht]; exact hxin, by rw [← ht]; exact hx0.2⟩) hprel
            have hpj : Hid (j < n) := Lib.hid hlt
            clear hra hS hSr hSa hrow hoff hrc hmem v1 v2 v3 v4 v5 v6 hn2 hlo hlt2 hx hprel hxin hxw htk hlen2 hjr hx0 hZ3 hL1 hL2
            by_cases hxt : x = till
            · subst hxt
              go_wp2_with fail
              with_reducible refine Calls.mono cr ?_
              intro e w6 h6
              obtain rfl := h6.1
              have hf6 := Lib.hid (key2.out w6 h6 (by first | rfl | trivial))
              clear cr key key2 h6
              go_wp2_with fail
              go_ret
              exact hf6.out
            · have x1 : (x == till) = false := beq_eq_false_iff_ne.2 hxt
              have x2 : decide (x = till) = false := decide_eq_false hxt
              go_wp2_with fail
              with_reducible refine Calls.mono cr ?_
              intro e w6 h6
              obtain rfl := h6.1
              have hf6 := Lib.hid (key.out w6 h6)
              clear cr key key2 h6
              go_wp2_with fail
              go_roundw
              case rel => exact ⟨j + 1, by go_num, by omega, hf6⟩
              case measure => simp [RowKit.intOf]; omega
          · obtain rfl : n = j := by omega
            have htk : rs.take n = rs := List.take_of_length_le (by rw [hn.out]; exact Nat.le_refl _)
            rw [htk] at hS
            have hris2 : Ris (src (rootsL V.gl V.gs) V.os L k) rs := by rw [hSr]; exact hris.out
            have c3 : wr.cell? ⟨P, 3, none⟩ = some ov := cell_of hS.wk.head rfl
            obtain ⟨ao, bo, oo, co, eo, hle, hmm2, hco, hcell⟩ := hS.wk.ord.cell
            have hol : (Vw.ord L).length = L.length := by unfold Vw.ord; rw [List.length_map]
            rw [hol] at eo hle
            rw [eo] at c3
            by_cases hkL : k = L.length
            · have hf6 := Lib.hid (hfin.out _ _ _ _ _ _ _ _ _ hS (.inl ⟨hS.bf, hris2, hkL⟩) (by rw [hn.out]; omega))
              rw [← hkL] at c3
              clear hra hS hSr hSa hrow hoff hris2 eo hle hmm2 hco hcell hkL hL1 hL2
              go_wp2_with fail
              go_ret
              exact hf6.out
            · have hkl : k < L.length := by omega
              obtain ⟨rfl, hbo, _⟩ := hco (by omega)
              have hcx := (hcell k (.int .i64 (L.getD k (0, 0)).1) (by
                unfold cells
                rw [List.getElem?_map, List.getElem?_eq_getElem (by rw [hol]; exact hkl), ← ord_get hkl, List.getD_eq_getElem?_getD, List.getElem?_eq_getElem (by rw [hol]; exact hkl)]; rfl)).1
              obtain ⟨o1, o2, _, _⟩ := hS.bf.old _ (show L.getD k (0, 0) ∈ L by exact getD_mem (0, 0) hkl)
              obtain ⟨a, ha⟩ : ∃ a, (L.getD k (0, 0)).1 = a := ⟨_, rfl⟩
              rw [ha] at hcx o1 o2
              obtain ⟨q, hq⟩ : ∃ q, fidx V.os a = some q := by
                cases e : fidx V.os a with
                | none => exact absurd o2 (fidx_none.1 e)
                | some q => exact ⟨q, rfl⟩
              obtain ⟨f1, f2, f3⟩ := fidx_some hq
              have hwa : WfI a := by
                have := hh0.out.wf.oa _ (getD_mem o0 f1)
                rw [f2] at this
                exact this
              have hos1 := hh1.out.os
              rw [hm0.out] at hos1
              have co1 := object_any hS.wk.wo hos1 hwa hq (by have := hm0.out; omega)
              have key : Hid (∀ w6 sv, Ints W1 Any sv (V.os.getD q o0).2.1 → Below wr.heap.size wr w6 → Hid (∃ ov lv n1 n2 L lost, St W1 w6 V P B1 B2 (.slice sp m cap) ov lv n1 n2 L lost (k + 1) [] ∧ Ints w6 Any sv (src (rootsL V.gl V.gs) V.os L (k + 1)) ∧ ahd L (k + 1) = a)) := Lib.hid fun w6 sv h1 h2 => Lib.hid ⟨ov, lv, n1, n2, L, lost, (hS.next hris2 hkl (by rw [hn.out]; omega)).below h2, by
                show Ints w6 Any sv (slo V.os (L.getD k (0, 0)).1)
                rw [ha, f3]
                exact ints_below (ints_below h1 hS.wk.bel) h2, ha⟩
              have k1 : (k : Int) < (L.length : Int) := by omega
              have k2 : ((k : Int) == (L.length : Int)) = false := beq_eq_false_iff_ne.2 (by omega)
              have k3 : decide ((k : Int) = (L.length : Int)) = false := decide_eq_false (by omega)
              have k4 : (k == L.length) = false := beq_eq_false_iff_ne.2 (by omega)
              have hk39 : k + 1 ≤ 40 := by omega
              have hcap : L.length ≤ co := hle
              unfold ObjR at co1
              generalize L.length = LL at *
              clear hra hS hSr hSa hrow hoff hris2 eo hle hmm2 hco hcell o1 o2 f1 f2 f3 hos1 hq ha hol hL1 hL2 hkL
              go_wp2_with fail
              with_reducible refine Calls.mono co1 ?_
              rintro e w6 ⟨sv, rfl, hsv, hb6⟩
              have hnx := key.out w6 sv hsv hb6
              obtain ⟨fa, hfa⟩ : ∃ fa, (V.os.getD q o0).1 = fa := ⟨_, rfl⟩
              obtain ⟨fb, hfb⟩ : ∃ fb, (V.os.getD q o0).2.2 = fb := ⟨_, rfl⟩
              rw [hfa, hfb]
              have hf1 : ∀ W, (Instr.field 29 (.agg #[.int .i64 fa, sv, .bool fb]) 1).run Try.prog W = .ok sv W := fun W => by rfl
              clear co1 key hsv hb6 hfa hfb
              go_wp2_with fail
              go_roundw
              case rel => exact ⟨sv, k + 1, a, rfl, rfl, by go_num, hk39, hnx⟩
              case measure => simp [RowKit.intOf]; omega
end Vw
end Go.Proofs.Ytneibhcigbfigaa
