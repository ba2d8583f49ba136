/- View: the roots (view.Roots). -/
import Derived.Test.YtneibhcigbfigaaVwMem
namespace Go.Proofs.Ytneibhcigbfigaa
open Go.RowKit Go.Lib Fx Ho Gr
set_option linter.unusedVariables false
namespace Vw
variable {B w w' W : World} {p mb n i : Nat} {v vg vs vo : Value} {all l zs : List Int} {x y : Int} {V : Vi}
theorem s_alloc (u : World) (o : Obj) : (u.alloc o).heap.size = u.heap.size + 1 := by show (u.heap.push _).size = _; rw [Array.size_push]
/-- Names that were just made. -/
theorem nm_new (hb : Below B.heap.size B w) : Nm B ((w.alloc (.map #[] 0)).alloc (.cells #[.slice none 0 0, .map (some w.heap.size)] 80)) (w.heap.size + 1) w.heap.size (.slice none 0 0) 0 [] := by
  have h1 := Mp.omade w
  have hs := s_alloc w (.map #[] 0)
  have hB := hb.size
  have h2 := heap_alloc_new (w.alloc (.map #[] 0)) (.cells #[.slice none 0 0, .map (some w.heap.size)] 80)
  rw [hs] at h2
  refine ⟨fun _ => none, ⟨h2, grow_nil 1 _, h1.below (below_alloc (Below.refl _ _) _), by omega, (fun e => by cases e), (fun e => by cases e), ⟨by omega, hB, fun k hk => (by cases hk)⟩, (hb.trans ((below_alloc (below_alloc (Below.refl _ w) _) _).mono hB))⟩, fun x => ⟨fun _ h => (by cases h), fun _ => rfl⟩, fun x => ⟨Int.le_refl 0, Int.le_refl 0⟩⟩
theorem stks_le : ∀ (gs : List Gor) (acc : List Int), (∀ g ∈ gs, g.2.2.length ≤ 40) → (stks acc gs).length ≤ acc.length + 40 * gs.length
  | [], acc, _ => Nat.le_refl _
  | g :: gs, acc, h => by
    have h2 := adds_le g.2.2 acc
    have h3 := h g (by simp)
    have e : stks acc (g :: gs) = stks (if g.1 = 5 then acc else adds acc g.2.2) gs := rfl
    have h1 := stks_le gs (if g.1 = 5 then acc else adds acc g.2.2) (fun g hg => h g (List.mem_cons_of_mem _ hg))
    have h4 : (if g.1 = 5 then acc else adds acc g.2.2).length ≤ acc.length + 40 := by split <;> omega
    rw [e, List.length_cons]; omega
set_option maxRecDepth 100000 in
set_option maxHeartbeats 4000000 in
theorem roots_any (h : IsV w V vg vs vo) (hf : Fw V) : Calls Try.prog 24 #[vv V vg vs vo] w (NewRow w (rootsL V.gl V.gs)) := by
  obtain ⟨W1, hW1⟩ : ∃ W1, w.alloc (.cells #[.int .i64 V.ph, .int .i64 V.cy, .int .i64 V.ck, vg, vs, vo, .int .i64 V.gr, .int .i64 V.nt, .int .i64 V.rt] 32) = W1 := ⟨_, rfl⟩
  have hb1 := below_alloc (Below.refl _ w) (.cells #[.int .i64 V.ph, .int .i64 V.cy, .int .i64 V.ck, vg, vs, vo, .int .i64 V.gr, .int .i64 V.nt, .int .i64 V.rt] 32)
  have k1 := heap_alloc_new w (.cells #[.int .i64 V.ph, .int .i64 V.cy, .int .i64 V.ck, vg, vs, vo, .int .i64 V.gr, .int .i64 V.nt, .int .i64 V.rt] 32)
  rw [hW1] at hb1 k1
  have h1 := h.below hb1
  have nm0 := nm_new (Below.refl _ W1)
  have hsz : W1.heap.size = w.heap.size + 1 := by rw [← hW1, s_alloc]
  obtain ⟨W3, hW3⟩ : ∃ W3, (W1.alloc (.map #[] 0)).alloc (.cells #[.slice none 0 0, .map (some W1.heap.size)] 80) = W3 := ⟨_, rfl⟩
  rw [hW3] at nm0
  have b3 : Below W1.heap.size W1 W3 := by rw [← hW3]; exact below_alloc (below_alloc (Below.refl _ _) _) _
  have c3 : W3.cell? ⟨w.heap.size, 3, none⟩ = some vg := cell_then b3 (cell_of k1 rfl)
  have ca := add_any nm0 h1.gl h1.wf.gl (by have := hf.gl; omega) (by have := hf.gl; rw [List.length_nil]; omega)
  have hgl := hf.gl
  rw [Nat.zero_add] at ca
  have c4 : W1.cell? ⟨w.heap.size, 4, none⟩ = some vs := cell_of k1 rfl
  obtain ⟨sp, cap, rfl, hmx, hgs⟩ := h1.gs
  obtain ⟨m, hm0⟩ : ∃ m, V.gs.length = m := ⟨_, rfl⟩
  have hm40 : m ≤ 40 := by rw [← hm0]; exact hf.gs
  have hat : Hid (∀ i, i < m → ∃ b off sv, sp = some ⟨b, off, none⟩ ∧ W1.cell? ⟨b, off + i * 3, none⟩ = some (.int .i64 (V.gs.getD i g0).1) ∧ W1.cell? ⟨b, off + i * 3 + 1, none⟩ = some (.int .i64 (V.gs.getD i g0).2.1) ∧ W1.cell? ⟨b, off + i * 3 + 2, none⟩ = some sv ∧ Ints W1 Any sv (V.gs.getD i g0).2.2) := Lib.hid fun i hi => by
    obtain ⟨b, off, sv, e1, _, e3, e4, e5, e6⟩ := hgs i (by omega)
    exact ⟨b, off, sv, e1, e3, e4, e5, e6⟩
  have hwf : Hid (∀ i, i < m → (∀ x ∈ (V.gs.getD i g0).2.2, WfI x) ∧ (V.gs.getD i g0).2.2.length ≤ 40) := Lib.hid fun i hi => ⟨h1.wf.gs _ (getD_mem g0 (by omega)), hf.st _ (getD_mem g0 (by omega))⟩
  have hnx : Hid (∀ i, i < m → stks (adds [] V.gl) (V.gs.take (i + 1)) = if (V.gs.getD i g0).1 = 5 then stks (adds [] V.gl) (V.gs.take i) else adds (stks (adds [] V.gl) (V.gs.take i)) (V.gs.getD i g0).2.2) := Lib.hid fun i hi => stks_next _ _ (by omega) g0
  have hln : Hid (∀ i, i ≤ m → (stks (adds [] V.gl) (V.gs.take i)).length ≤ 40 + 40 * i) := Lib.hid fun i hi => by
    have e1 := adds_le V.gl []
    have e2 := stks_le (V.gs.take i) (adds [] V.gl) (fun g hg => hf.st g (List.mem_of_mem_take hg))
    rw [List.length_take] at e2
    rw [List.length_nil] at e1
    have : min i V.gs.length ≤ i := Nat.min_le_left _ _
    omega
  have hfin : Hid (∀ W v', Nm W1 W (W1.heap.size + 1) W1.heap.size v' (V.gl.length + 40 * m) (stks (adds [] V.gl) (V.gs.take m)) → NewRow w (rootsL V.gl V.gs) (.returned v') W) := Lib.hid fun W v' ⟨c, hc, _⟩ => by
    have e2 := hln.out m (Nat.le_refl _)
    rw [List.take_of_length_le (by omega)] at hc e2
    refine ⟨v', rfl, ints_grow hc.row (by show (stks (adds [] V.gl) V.gs).length ≤ _; omega) (fun k hk => by have := hc.low.2.2 k hk; omega), hb1.trans (hc.bel.mono hb1.size)⟩
  rw [hm0] at hmx c4 hW1
  replace hsz := Lib.hid hsz
  clear h h1 nm0 hgs k1 hb1 hf b3
  unfold vv
  rw [hm0]
  clear hm0
  go_enter Try.func24, Try.ntmps24
  have hmm := @run_makeMap Try.prog
  go_upto_region 1 with fail
  try rw [hW1]
  clear hW1
  go_upto_region 2 with fail
  try rw [hW3]
  clear hW3 hmm
  have hs2 := hsz.out
  clear hsz
  rw [hs2] at ca hfin
  try rw [hs2]
  clear hs2
  go_wp2_with fail
  with_reducible refine Calls.mono ca ?_
  rintro e w4 ⟨rfl, v4, hnm⟩
  clear ca c3
  have st : Hid (Nm W1 w4 (w.heap.size + 1 + 1) (w.heap.size + 1) v4 (V.gl.length + 40 * 0) (stks (adds [] V.gl) (V.gs.take 0))) := Lib.hid hnm
  have c4' : w4.cell? ⟨w.heap.size, 4, none⟩ = some (.slice sp m cap) := by
    obtain ⟨c, hc, _⟩ := hnm
    exact (hc.bel.cell (World.block_lt_of_cell? _ _ c4)).trans c4
  clear hnm c4
  go_wp2_with fail
  go_loopw [16] (fun u wr => ∃ (i : Nat) (v' : Value), u = .int .i64 i ∧ i ≤ m ∧ Hid (Nm W1 wr (w.heap.size + 1 + 1) (w.heap.size + 1) v' (V.gl.length + 40 * i) (stks (adds [] V.gl) (V.gs.take i)))) (fun u _ => (m - (RowKit.intOf u).toNat))
  case atStart => exact ⟨0, v4, rfl, by omega, st⟩
  case round =>
    obtain ⟨i, v', rfl, hi, hra⟩ := hrel
    clear st c4'
    have i0 : (0 : Int) ≤ (i : Int) := by omega
    by_cases hlt : i < m
    · have i2 : (i : Int) < (m : Int) := by omega
      obtain ⟨b, off, sv, rfl, e3, e4, e5, e6⟩ := hat.out i hlt
      obtain ⟨f1, f2⟩ := hwf.out i hlt
      have hnx1 := hnx.out i hlt
      have hll := hln.out i (by omega)
      have hbW : Below W1.heap.size W1 wr := by obtain ⟨c, hc, _⟩ := hra.out; exact hc.bel
      have d3 := (hbW.cell (World.block_lt_of_cell? _ _ e3)).trans e3
      have d4 := (hbW.cell (World.block_lt_of_cell? _ _ e4)).trans e4
      have d5 := (hbW.cell (World.block_lt_of_cell? _ _ e5)).trans e5
      obtain ⟨s, hs⟩ : ∃ s, (V.gs.getD i g0).1 = s := ⟨_, rfl⟩
      obtain ⟨P, hP⟩ : ∃ P, (V.gs.getD i g0).2.1 = P := ⟨_, rfl⟩
      obtain ⟨l, hl⟩ : ∃ l, (V.gs.getD i g0).2.2 = l := ⟨_, rfl⟩
      rw [hs] at d3 hnx1
      rw [hP] at d4
      rw [hl] at e6 f1 f2 hnx1
      obtain ⟨sp2, cp2, esv, -⟩ := id e6
      obtain ⟨n2, hn2⟩ : ∃ n, l.length = n := ⟨_, rfl⟩
      rw [hn2] at esv f2
      subst esv
      have hba := below_alloc (Below.refl _ wr) (.cells #[.int .i64 s, .int .i64 P, .slice sp2 n2 cp2] 26)
      by_cases hs5 : s = 5
      · rw [if_pos hs5] at hnx1
        have hnxt : Hid (Nm W1 (wr.alloc (.cells #[.int .i64 s, .int .i64 P, .slice sp2 n2 cp2] 26)) (w.heap.size + 1 + 1) (w.heap.size + 1) v' (V.gl.length + 40 * (i + 1)) (stks (adds [] V.gl) (V.gs.take (i + 1)))) := Lib.hid (by rw [hnx1]; exact (hra.out.below hba).mono (by omega))
        subst hs5
        clear hra hnx1 e3 e4 e5 e6 f1 hs hP hl hbW hba hn2
        go_wp2_with fail
        go_roundw
        case rel => exact ⟨i + 1, v', by go_num, by omega, hnxt⟩
        case measure => simp [RowKit.intOf]; omega
      · rw [if_neg hs5] at hnx1
        have ca := add_any (hra.out.below hba) e6 f1 (by omega) (by omega)
        rw [hn2] at ca
        rw [← hnx1] at ca
        have s5a : (s == 5) = false := beq_eq_false_iff_ne.2 hs5
        have s5b : decide (s = 5) = false := decide_eq_false hs5
        clear hra hnx1 e3 e4 e5 e6 f1 hs hP hl hbW hba hn2
        go_wp2_with fail
        with_reducible refine Calls.mono ca ?_
        rintro e w6 ⟨rfl, v6, hnm⟩
        have hnxt : Hid (Nm W1 w6 (w.heap.size + 1 + 1) (w.heap.size + 1) v6 (V.gl.length + 40 * (i + 1)) (stks (adds [] V.gl) (V.gs.take (i + 1)))) := Lib.hid (hnm.mono (by omega))
        clear ca hnm
        go_wp2_with fail
        go_roundw
        case rel => exact ⟨i + 1, v6, by go_num, by omega, hnxt⟩
        case measure => simp [RowKit.intOf]; omega
    · obtain rfl : i = m := by omega
      have hf := Lib.hid (hfin.out wr v' hra.out)
      have c0 : wr.cell? ⟨w.heap.size + 1 + 1, 0, none⟩ = some v' := by obtain ⟨c, hc, _⟩ := hra.out; exact cell_of hc.head rfl
      clear hra
      go_wp2_with fail
      go_ret
      exact hf.out
end Vw
end Go.Proofs.Ytneibhcigbfigaa
