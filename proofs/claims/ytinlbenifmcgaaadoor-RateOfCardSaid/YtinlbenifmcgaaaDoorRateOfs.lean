/- rate.Of: a run's numbers. -/
import Derived.Test.YtinlbenifmcgaaaDoorRateIns2
namespace Go.Proofs.YtinlbenifmcgaaaDoor
open Go.RowKit Go.Lib Fx Ho Gr
set_option linter.unusedVariables false
namespace Pr
open Fk Fl Ieee Hm
variable {w w' : World} {v : Value} {zs : List Nat}
/-- The two structs of the call: what is told, and what is filled. -/
structure Two (w wr : World) (a b c d : Nat) : Prop where
  out : wr.heap[w.heap.size]? = some (.cells #[.float .f64 0, .float .f64 0, .float .f64 0, .float .f64 0] 37 (0, 0))
  row : wr.heap[w.heap.size + 1]? = some (.cells #[.float .f64 a, .float .f64 b, .float .f64 c, .float .f64 d] 37 (0, 0))
  below : Below w.heap.size w wr
theorem Two.to {wr : World} {a b c d : Nat} (h : Two w wr a b c d) (hb : Below wr.heap.size wr w') : Two w w' a b c d :=
  ⟨(hb.block _ (block_lt h.out)).trans h.out, (hb.block _ (block_lt h.row)).trans h.row, h.below.trans (hb.mono h.below.size)⟩
theorem Two.set {wr : World} {a b c d x : Nat} (h : Two w wr a b c d) : Two w (wr.setCell ⟨w.heap.size + 1, 3, none⟩ (.float .f64 x)) a b c x := by
  refine ⟨?_, ?_, ?_⟩
  · rw [heap_setCell_other wr ⟨w.heap.size + 1, 3, none⟩ _ _ (show w.heap.size ≠ w.heap.size + 1 by omega)]; exact h.out
  · rw [heap_setCell_same wr _ 3 _ _ _ h.row]; rfl
  · exact h.below.trans ⟨rfl, by simp, rfl, by simp [World.setCell], fun k hk => heap_setCell_other wr ⟨w.heap.size + 1, 3, none⟩ _ _ (show k ≠ w.heap.size + 1 by omega)⟩
/-- What Of tells: the four numbers. -/
def Ofs (w : World) (zs : List Nat) (u g : Option Nat) (e : Ending) (w' : World) : Prop := ∃ a b c d, e = .returned (.agg #[.float .f64 a, .float .f64 b, .float .f64 c, .float .f64 d]) ∧ St u a ∧ St g b ∧ St (meanO zs) c ∧ Wf d ∧ (∀ M, M.Perm zs → Fall M → key d = key (M.getD 0 0)) ∧ Below w.heap.size w w'
set_option maxRecDepth 100000 in
set_option maxHeartbeats 4000000 in
theorem of_any (h : Fls w v zs) (hz : zs.length ≤ 1000) (a b c d : Int) : Calls Tryd.prog 25 #[.int .i64 a, .int .i64 b, .int .i64 c, .int .i64 d, v] w (Ofs w zs (floatBits .quo .f64 (floatOfInt .f64 a) (floatOfInt .f64 b)) (floatBits .quo .f64 (floatOfInt .f64 d) (floatOfInt .f64 c))) := by
  have c1 := fun W => share_any a b W
  have c2 := fun W => share_any d c W
  have c3 := fun (W : World) (hW : Below w.heap.size w W) => mean_any (h.below hW) hz
  have c4 := fun (W : World) (hW : Below w.heap.size w W) => most_any (h.below hW) hz 1
  generalize floatBits .quo .f64 (floatOfInt .f64 a) (floatOfInt .f64 b) = su at *
  generalize floatBits .quo .f64 (floatOfInt .f64 d) (floatOfInt .f64 c) = sg at *
  have hst : ∀ (a : Addr) (z : Nat) (m : Mode) (W : World), (store a (.float .f64 z) m).run Tryd.prog W = stored Tryd.prog W a (.float .f64 z) m := fun a z m W => run_store _ W a _ m rfl
  simp only [stored] at hst
  go_enter Tryd.func25, Tryd.ntmps25
  go_wp2_with fail
  with_reducible refine Calls.mono (c1 _) ?_
  rintro e q1 ⟨y1, n1, rfl, rfl, u1, u2, u3⟩
  have k1 : Hid (St su y1) := Lib.hid ⟨u1, u2, u3⟩
  clear c1 u1 u2 u3
  go_wp2_with fail
  with_reducible refine Calls.mono (c2 _) ?_
  rintro e q2 ⟨y2, n2, rfl, rfl, u1, u2, u3⟩
  have k2 : Hid (St sg y2) := Lib.hid ⟨u1, u2, u3⟩
  clear c2 u1 u2 u3
  go_wp2_with fail
  with_reducible refine Calls.mono (c3 _ (by repeat (first | assumption | exact Below.refl _ _ | refine below_drewN ?_ _ | refine below_alloc ?_ _ | refine below_then ?_ (by assumption)))) ?_
  rintro e q3 ⟨y3, n3, rfl, rfl, u1, u2, u3⟩
  have k3 : Hid (St (meanO zs) y3) := Lib.hid ⟨u1, u2, u3⟩
  clear c3 u1 u2 u3
  go_wp2_with fail
  clear hst
  generalize hwq : (World.alloc (World.drewN (World.alloc w _) _) _) = wq
  have htw : Two w wq y1 y2 y3 0 := by
    rw [← hwq]
    refine ⟨?_, ?_, below_alloc (below_drewN (below_alloc (Below.refl _ w) _) _) _⟩
    · exact old_new (w := w) (below_alloc (below_drewN (Below.refl _ _) _) _)
    · exact heap_new1 (w := w) (by show (w.alloc _).heap.size = _; exact size_new w _)
  clear hwq
  replace htw := Lib.hid htw
  with_reducible refine Calls.mono (c4 _ htw.out.below) ?_
  rintro e q4 ⟨u, M, rfl, hF, hM, hb⟩
  have htq := Lib.hid (htw.out.to hb)
  have hM2 : Hid (∀ N, N.Perm zs → Fall N → M.map key = (N.take 1).map key) := Lib.hid fun N h1 h2 => most_eq hM h1 h2
  obtain ⟨r, hr1, _, _, hr4⟩ := hM
  obtain ⟨⟨sp, cap, rfl, _, hi⟩, hwm⟩ := hF
  obtain ⟨l, hl⟩ : ∃ l, M.length = l := ⟨_, rfl⟩
  have hl1 : l ≤ 1 := by rw [← hl, hr4]; exact Nat.min_le_left _ _
  have hz0 : Hid (l = 0 → zs = []) := Lib.hid fun e => by
    rw [← hl, hr4] at e
    exact List.eq_nil_of_length_eq_zero (by omega)
  rw [hl] at hi ⊢
  replace hl := Lib.hid hl
  replace hi := Lib.hid hi
  replace hwm := Lib.hid hwm
  have hst : ∀ (a : Addr) (z : Nat) (m : Mode) (W : World), (store a (.float .f64 z) m).run Tryd.prog W = stored Tryd.prog W a (.float .f64 z) m := fun a z m W => run_store _ W a _ m rfl
  simp only [stored] at hst
  clear c4 htw hb hr1 hr4
  go_wp2_with fail
  go_loopw [26] (fun x wr => ∃ (j d : Nat), x = .int .i64 j ∧ j ≤ l ∧ Hid (Two w wr y1 y2 y3 d) ∧ Hid (Wf d) ∧ Hid ((j = 0 → d = 0) ∧ (j = 1 → d = M.getD 0 0)) ∧ Hid (Below q4.heap.size q4 wr ∨ j = l)) (fun x _ => (l - (RowKit.intOf x).toNat))
  case atStart => exact ⟨0, 0, rfl, by omega, htq, Lib.hid (by unfold Wf; omega), Lib.hid ⟨fun _ => rfl, fun e => by cases e⟩, Lib.hid (Or.inl (Below.refl _ _))⟩
  case round =>
    clear htq
    obtain ⟨j, d, rfl, hj, htq, hwd, hd, hbq⟩ := hrel
    by_cases hjl : j < l
    · obtain ⟨b, off, rfl, hbl, hc⟩ := hi.out j hjl
      have hbb : Below q4.heap.size q4 wr := hbq.out.resolve_right (by omega)
      replace hc := cell_then hbb hc
      have hdj : Hid (M.getD j 0 = M.getD 0 0) := Lib.hid (by rw [show j = 0 by omega])
      have hwx : Hid (Wf (M.getD j 0)) := Lib.hid (wf_get hwm.out j)
      generalize M.getD j 0 = x at *
      have r3 := cell_of htq.out.row (j := 3) rfl
      have r3f := frozen_of_row wr (w.heap.size + 1) 3 _ _ htq.out.row
      have htn := Lib.hid (htq.out.set (x := x))
      clear hbb hbq hd htq hwd hi
      go_wp2_with fail
      go_roundw
      case rel => exact ⟨j + 1, x, by go_num, by omega, htn, hwx, Lib.hid ⟨fun e => by omega, fun _ => hdj.out⟩, Lib.hid (Or.inr (by omega))⟩
      case measure => simp [RowKit.intOf]; omega
    · obtain rfl : j = l := by omega
      have hfin : Hid (∀ wf, Below w.heap.size w wf → Ofs w zs su sg (.returned (.agg #[.float .f64 y1, .float .f64 y2, .float .f64 y3, .float .f64 d])) wf) := Lib.hid fun wf hwf => ⟨y1, y2, y3, d, rfl, k1.out, k2.out, k3.out, hwd.out, fun N h1 h2 => by
        have hm := hM2.out N h1 h2
        rcases Nat.eq_zero_or_pos j with e | e
        · rw [hd.out.1 e]
          have := hz0.out e
          subst this
          rw [List.Perm.eq_nil h1]; rfl
        · have e1 : j = 1 := by omega
          rw [hd.out.2 e1]
          have hlm := hl.out
          match M, N, hm, hlm with
          | [m], [], hm, _ => simp at hm
          | [m], n' :: N', hm, _ => simpa using hm
          | [], _, _, hlm => simp at hlm; omega
          | _ :: _ :: _, _, _, hlm => simp at hlm; omega, hwf⟩
      have r0 := cell_of htq.out.row (j := 0) rfl
      have r1 := cell_of htq.out.row (j := 1) rfl
      have r2 := cell_of htq.out.row (j := 2) rfl
      have r3 := cell_of htq.out.row (j := 3) rfl
      have o0 := cell_of htq.out.out (j := 0) rfl
      have o1 := cell_of htq.out.out (j := 1) rfl
      have o2 := cell_of htq.out.out (j := 2) rfl
      have o3 := cell_of htq.out.out (j := 3) rfl
      have f0 := frozen_of_row wr w.heap.size 0 _ _ htq.out.out
      have f1 := frozen_of_row wr w.heap.size 1 _ _ htq.out.out
      have f2 := frozen_of_row wr w.heap.size 2 _ _ htq.out.out
      have f3 := frozen_of_row wr w.heap.size 3 _ _ htq.out.out
      have hbt := Lib.hid htq.out.below
      have htw2 := htq
      clear hd htq hwd hbq k1 k2 k3 hi
      have hf1 : Hid (Two w wr y1 y2 y3 d → ∃ wf, wf = ((((wr.setCell ⟨w.heap.size, 0, none⟩ (.float .f64 y1)).setCell ⟨w.heap.size, 1, none⟩ (.float .f64 y2)).setCell ⟨w.heap.size, 2, none⟩ (.float .f64 y3)).setCell ⟨w.heap.size, 3, none⟩ (.float .f64 d)) ∧ wf.heap[w.heap.size]? = some (.cells #[.float .f64 y1, .float .f64 y2, .float .f64 y3, .float .f64 d] 37 (0, 0)) ∧ Below w.heap.size w wf) := Lib.hid fun ht => by
        have s0 := heap_setCell_same wr w.heap.size 0 _ _ (.float .f64 y1) ht.out
        have s1 := heap_setCell_same _ w.heap.size 1 _ _ (.float .f64 y2) s0
        have s2 := heap_setCell_same _ w.heap.size 2 _ _ (.float .f64 y3) s1
        have s3 := heap_setCell_same _ w.heap.size 3 _ _ (.float .f64 d) s2
        refine ⟨_, rfl, s3, ?_⟩
        have hw := (((Wrote.refl (fun k => k = w.heap.size) wr).trans (wrote_setCell (a := ⟨w.heap.size, 0, none⟩) (u := .float .f64 y1) rfl rfl (by simp) rfl rfl)).trans ((wrote_setCell (a := ⟨w.heap.size, 1, none⟩) (u := .float .f64 y2) rfl rfl (by simp) rfl rfl))).trans (wrote_setCell (a := ⟨w.heap.size, 2, none⟩) (u := .float .f64 y3) rfl rfl (by simp) rfl rfl)
        have hw2 := hw.trans (wrote_setCell (a := ⟨w.heap.size, 3, none⟩) (u := .float .f64 d) rfl rfl (by simp) rfl rfl)
        exact hw2.below (fun k hk => Nat.le_of_eq hk.symm) ht.below
      obtain ⟨wf, hwf, hf2, hf3⟩ := hf1.out htw2.out
      replace hwf := Lib.hid hwf
      replace hf2 := Lib.hid hf2
      replace hf3 := Lib.hid hf3
      clear hf1 htw2 hbt
      go_wp2_with fail
      rw [← hwf.out]
      have g0 := cell_of hf2.out (j := 0) rfl
      have g1 := cell_of hf2.out (j := 1) rfl
      have g2 := cell_of hf2.out (j := 2) rfl
      have g3 := cell_of hf2.out (j := 3) rfl
      exact bodyPost_ret (v := .agg #[.float .f64 y1, .float .f64 y2, .float .f64 y3, .float .f64 d]) (by simp [results, Tryd.results25, go_sem, g0, g1, g2, g3]) rfl (hfin.out _ hf3.out)
end Pr
end Go.Proofs.YtinlbenifmcgaaaDoor
