/- The document's own Most, walked. -/
import Derived.Test.YtinlbenifmcgaaaDoorRateIns
namespace Go.Proofs.YtinlbenifmcgaaaDoor
open Go.RowKit Go.Lib Fx Ho Gr
set_option linter.unusedVariables false
namespace Pr
open Fk Fl Ieee Hm
variable {w w' : World} {x y r p : Nat} {v u v2 : Value} {zs ys L M : List Nat}
/-- What the document's Most tells. -/
def RMosts (w : World) (zs : List Nat) (n : Nat) (e : Ending) (w' : World) : Prop := ∃ u M, e = .returned u ∧ Fls w' u (M.take n) ∧ M.Perm zs ∧ Fall M ∧ Below w.heap.size w w'
set_option maxRecDepth 100000 in
set_option maxHeartbeats 8000000 in
theorem rmost_any (h : Fls w v zs) (hz : zs.length ≤ 1000) (n : Int) : Calls Tryd.prog 23 #[v, .int .i64 n] w (RMosts w zs n.toNat) := by
  obtain ⟨⟨sp, cap, rfl, _, hi⟩, hwz⟩ := h
  obtain ⟨l, hl⟩ : ∃ l, zs.length = l := ⟨_, rfl⟩
  rw [hl] at hi hz ⊢
  replace hl := Lib.hid hl
  replace hi := Lib.hid hi
  replace hwz := Lib.hid hwz
  have st : Hid (In w w (.slice none 0 0) []) := Lib.hid ⟨grow_nil 1 w, fun k hk => (by cases hk), Below.refl _ _, fun x hx => by simp at hx⟩
  go_enter Tryd.func23, Tryd.ntmps23
  go_wp2_with fail
  go_loopw [5, 6] (fun u x wr => ∃ (i : Nat) (M : List Nat) (s : Option Addr) (c : Nat), u = .slice s i c ∧ x = .int .i64 i ∧ i ≤ l ∧ Hid (M.length = i) ∧ Hid (In w wr (.slice s i c) M) ∧ Hid (Fall M) ∧ Hid (M.Perm (zs.take i))) (fun _ x _ => (l - (RowKit.intOf x).toNat))
  case atStart => exact ⟨0, [], none, 0, rfl, rfl, by omega, Lib.hid rfl, st, Lib.hid List.Pairwise.nil, Lib.hid (by simp)⟩
  case round =>
    clear st
    obtain ⟨i, M, s, c, rfl, rfl, h1, hMi, hin, hfall, hperm⟩ := hrel
    by_cases hil : i < l
    · obtain ⟨b, off, rfl, hb, hc⟩ := hi.out i hil
      obtain ⟨x, hx⟩ : ∃ x, zs.getD i 0 = x := ⟨_, rfl⟩
      rw [hx] at hc
      have hwx : Wf x := by rw [← hx]; exact wf_get hwz.out i
      replace hwx := Lib.hid hwx
      have hp2 : Hid (∀ k, (M.take k ++ [x] ++ M.drop k).Perm (zs.take (i + 1))) := Lib.hid fun k => by
        rw [List.take_succ_eq_append_getElem (by rw [hl.out]; exact hil), ← Hm.getD_at (d := 0) (by rw [hl.out]; exact hil), hx]
        exact (ins_perm M x k).trans (hperm.out.append_right _)
      replace hc : wr.cell? ⟨b, off + i, none⟩ = some (.float .f64 x) := cell_then hin.out.below hc
      have hpl : Hid (∀ j, i ≤ j → j < M.length → key (M.getD j 0) < key x) := Lib.hid fun j h2 h3 => by rw [hMi.out] at h3; omega
      clear hx hperm hb
      go_wp2_with fail
      go_loopw [7] (fun y wq => ∃ k m : Nat, y = .int .i64 k ∧ k ≤ i ∧ wq = wr.drewN m ∧ Hid (∀ j, k ≤ j → j < M.length → key (M.getD j 0) < key x)) (fun y _ => ((RowKit.intOf y).toNat))
      case atStart => exact ⟨i, 0, rfl, by omega, rfl, hpl⟩
      case round =>
        clear hpl
        obtain ⟨k, m, rfl, hki, rfl, hpl⟩ := hrel
        rcases k with _ | k
        · have hge : Hid (0 < 0 → key x ≤ key (M.getD (0 - 1) 0)) := Lib.hid fun h => by omega
          rw [show ((0 : Nat) : Int) = 0 from rfl]
          go_wp2_with fail
          go_quiet (fail)
          go_wp2_with fail
          have hplace : Hid (Place M x (0)) := Lib.hid ⟨by rw [hMi.out]; exact hki, hpl.out, hge.out⟩
          have hnF : Hid (Fall (M.take (0) ++ [x] ++ M.drop (0))) := Lib.hid (ins_fall hfall.out hplace.out)
          have hnP := Lib.hid (hp2.out (0))
          have hnL : Hid ((M.take (0) ++ [x] ++ M.drop (0)).length = i + 1) := Lib.hid (by rw [List.length_append, List.length_append, List.length_take, List.length_drop, List.length_singleton, hMi.out]; omega)
          obtain ⟨wq, hwq⟩ : ∃ wq, (wr.drewN m).drewN nq = wq := ⟨_, rfl⟩
          have hcq : wq.cell? ⟨b, off + i, none⟩ = some (.float .f64 x) := by rw [← hwq]; exact hc
          have hblt : b < wq.heap.size := World.block_lt_of_cell? wq _ hcq
          have hinq : Hid (In w wq (.slice s i c) M) := Lib.hid (by rw [← hwq]; exact hin.out.to (below_drewN (below_drewN (Below.refl _ _) m) nq))
          simp only [hwq]
          clear hwq hplace hge hpl hfall hp2 hin
          clear hc
          have hki2 : 0 ≤ i := hki
          have hb1 := hinq.out.row
          rw [hMi.out] at hb1
          have hs1 : Hid (∀ W, Below wq.heap.size wq W → Src Tryd.prog 1 22 (.slice s (0) c) (0) (fc (M.take (0))) W) := Lib.hid fun W hW => by
            have h4 := (hb1.take (k := 0) hki2).below hW
            rw [Nat.mul_one, show (fc M).take (0) = fc (M.take (0)) by unfold fc; rw [List.map_take]] at h4
            exact src_row h4 (fc_one _)
          have hs4 : Hid (∀ a1, (a1 = (s : Option Addr).map (·.add ((0) * 1)) ∨ c = 0 ∧ a1 = s) → ∀ W, Below wq.heap.size wq W → Src Tryd.prog 1 22 (.slice a1 (i - (0)) (c - (0))) (i - (0)) (fc (M.drop (0))) W) := Lib.hid fun a1 ha1 W hW => by
            have h4 := (hb1.drop (k := 0) (a1 := a1) hki2 ha1).1.below hW
            rw [Nat.mul_one, show (fc M).drop (0) = fc (M.drop (0)) by unfold fc; rw [List.map_drop]] at h4
            exact src_row h4 (fc_one _)
          have hci : i ≤ c ∧ c ≤ 9223372036854775807 := by
            obtain ⟨ao, b3, off3, cap3, e, h5, h6, _⟩ := hb1.cell
            injection e with e1 e2 e3
            unfold maxLen at h6
            omega
          obtain ⟨hci1, hci2⟩ := hci
          have hbd1 : 0 + (0) ≤ 1000000 := by omega
          have hbd2 : (0) + 1 ≤ 1000000 := by omega
          have hbd3 : (0) + 1 + (i - (0)) ≤ 1000000 := by omega
          have hinB := Lib.hid hinq.out.below
          have hinS : Hid (w.heap.size ≤ wq.heap.size) := Lib.hid hinq.out.below.size
          have hinW := Lib.hid hinq.out.wf
          have hb0 := Lib.hid hb1
          clear hb1 hinq hs4
          have hrel2 : Hid (∀ w3 s3 c3, Own wq w3 (.slice s3 ((0) + 1 + (i - (0))) c3) (fc (M.take (0)) ++ [.float .f64 x] ++ fc (M.drop (0))) ((0) + 1 + (i - (0))) → In w w3 (.slice s3 (i + 1) c3) (M.take (0) ++ [x] ++ M.drop (0))) := Lib.hid fun w3 s3 c3 ho => by
            have hlk : (0) + 1 + (i - (0)) = i + 1 := by omega
            rw [hlk] at ho
            refine ⟨by rw [hnL.out, fc_app, fc_app]; exact ho.row, fun k' hk' => Nat.le_trans hinS.out (ho.low k' hk'), hinB.out.trans (ho.below.mono hinB.out.size), fun y hy => ?_⟩
            rcases List.mem_append.1 hy with hy | hy
            · rcases List.mem_append.1 hy with hy | hy
              · exact hinW.out y (List.mem_of_mem_take hy)
              · simp only [List.mem_singleton] at hy
                subst hy
                exact hwx.out
            · exact hinW.out y (List.mem_of_mem_drop hy)
          clear hnL hinS hinB hinW
          have hs3 : Hid (∀ W, Below wq.heap.size wq W → Src Tryd.prog 1 22 (.slice s i c) (i - 0) (fc (M.drop 0)) W) := Lib.hid fun W hW => src_row (hb0.out.below hW) (fc_one _)
          go_wp2_with fail
          go_region_law (first | (refine step_append_g rfl (.tmp 42) (.tmp 45) rfl rfl eltF (ho2.out.row.below (by (repeat (first | exact Below.refl _ _ | refine below_alloc ?_ _ | refine below_drewN ?_ _ | refine Below.drew ?_)))) rfl rfl (hs3.out _ (ho2.out.below.trans (((by (repeat (first | exact Below.refl _ _ | refine below_alloc ?_ _ | refine below_drewN ?_ _ | refine Below.drew ?_))) : Below w2.heap.size w2 _).mono ho2.out.below.size))) hbd3 ?_; intro v3 w3 g5 g6; have ho3 := Lib.hid (ho2.out.more (by (repeat (first | exact Below.refl _ _ | refine below_alloc ?_ _ | refine below_drewN ?_ _ | refine Below.drew ?_))) g5 g6); obtain ⟨s3, c3, rfl⟩ := g5.slice; clear g5 g6) | (refine step_append_g rfl (.tmp 36) (.tmp 41) rfl rfl eltF (ho1.out.row.below (by (repeat (first | exact Below.refl _ _ | refine below_alloc ?_ _ | refine below_drewN ?_ _ | refine Below.drew ?_)))) rfl rfl (src_x (x := x) (by first | exact hjb.out | exact heap_alloc_new w1' _)) hbd2 ?_; intro v2 w2 g3 g4; have ho2 := Lib.hid (ho1.out.more (by (repeat (first | exact Below.refl _ _ | refine below_alloc ?_ _ | refine below_drewN ?_ _ | refine Below.drew ?_))) g3 g4); clear g3 g4) | (refine step_append_g rfl (.tmp 32) (.tmp 35) rfl rfl eltF (lit_row (by first | exact lt_new _ _ | exact lt_new1 (by exact size_new wq _) | exact Nat.lt_trans (lt_new _ _) (lt_new _ _))) rfl rfl (hs1.out _ (by (repeat (first | exact Below.refl _ _ | refine below_alloc ?_ _ | refine below_drewN ?_ _ | refine Below.drew ?_)))) hbd1 ?_; intro v1 w1' g1 g2; have hk := own_one (wq := wq) (by (repeat (first | exact Below.refl _ _ | refine below_alloc ?_ _ | refine below_drewN ?_ _ | refine Below.drew ?_))) (by first | exact Nat.le_refl _ | exact Nat.le_succ _ | exact Below.size (w := wq) (by (repeat (first | exact Below.refl _ _ | refine below_alloc ?_ _ | refine below_drewN ?_ _ | refine Below.drew ?_)))) g1 g2; have ho1 := Lib.hid hk.1; have hk3 := Lib.hid hk.2; have hd9 := cell_then ho1.out.below hcq; clear hk g1 g2; try (first | (have hjb : Hid (w1'.heap[wq.heap.size + 1]? = some (.cells #[.float .f64 x] 23 (0, 0))) := Lib.hid (hk3.out (wq.heap.size + 1) _ (Nat.succ_ne_self _) (heap_new1 (w := wq) (by exact size_new wq _)))) | (have hjb : Hid (w1'.heap[wq.heap.size]? = some (.cells #[.float .f64 x] 23 (0, 0))) := Lib.hid (hk3.out wq.heap.size _ (Nat.succ_ne_self _).symm (old_new (w := wq) (C := #[.float .f64 x]) (t := 23) (by (repeat (first | exact Below.refl _ _ | refine below_alloc ?_ _ | refine below_drewN ?_ _ | refine Below.drew ?_)))))))))
          all_goals
            have hin3 := Lib.hid (hrel2.out _ _ _ ho3.out)
            clear ho3 hrel2 hs1 hs3
            go_wp2_with fail
            go_roundw
            case rel => exact ⟨i + 1, _, s3, c3, by first | rfl | (congr 1; omega), by go_num, by omega, Lib.hid (by rw [List.length_append, List.length_append, List.length_take, List.length_drop, List.length_singleton, hMi.out]; omega), hin3, hnF, hnP⟩
            case measure => simp [RowKit.intOf]; omega
        · obtain ⟨ao, b2, off2, cap2, e, hle, hm, ha, hcc⟩ := hin.out.row.cell
          injection e with e1 e2 e3
          subst e1 e3
          clear e2
          rw [hMi.out] at hle
          obtain ⟨rfl, hb2, -⟩ := ha (by omega)
          have hck := (hcc k _ (fc_get (by rw [hMi.out]; omega))).1
          have cl := fun W => rless_any (M.getD k 0) x (wf_get hin.out.wf k) hwx.out W
          obtain ⟨y, hy⟩ : ∃ y, M.getD k 0 = y := ⟨_, rfl⟩
          rw [hy] at hck cl
          simp only [Int.natCast_add, Int.natCast_one]
          clear hcc ha
          unfold maxLen at hm
          obtain ⟨w1, hw1⟩ : ∃ w1, wr.drewN m = w1 := ⟨_, rfl⟩
          have hc1 : w1.cell? ⟨b, off + i, none⟩ = some (.float .f64 x) := by rw [← hw1]; exact hc
          replace hck : w1.cell? ⟨b2, off2 + k, none⟩ = some (.float .f64 y) := by rw [← hw1]; exact hck
          simp only [hw1]
          replace hw1 := Lib.hid hw1
          by_cases hlt : key y < key x
          · rw [decide_eq_true hlt] at cl
            have hpl2 : Hid (∀ j, k ≤ j → j < M.length → key (M.getD j 0) < key x) := Lib.hid fun j h2 h3 => by
              rcases Nat.lt_or_ge k j with h4 | h4
              · exact hpl.out j (by omega) h3
              · obtain rfl : j = k := by omega
                rw [hy]; exact hlt
            clear hpl hlt hy
            go_wp2_with fail
            go_quiet ((go_at_call 24; exact quiet_ans1 ((cl _).mono fun _ _ h => ⟨h.1, 0, h.2.symm⟩)))
            go_wp2_with fail
            go_roundw
            case rel => exact ⟨k, _, by go_num, by omega, by rw [← hw1.out]; exact World.drewN_drewN _ _ _, hpl2⟩
            case measure => simp [RowKit.intOf]
          · rw [decide_eq_false hlt] at cl
            have hge : Hid (0 < k + 1 → key x ≤ key (M.getD (k + 1 - 1) 0)) := Lib.hid fun _ => by rw [Nat.add_sub_cancel, hy]; omega
            clear hlt hy
            go_wp2_with fail
            go_quiet ((go_at_call 24; exact quiet_ans1 ((cl _).mono fun _ _ h => ⟨h.1, 0, h.2.symm⟩)))
            go_wp2_with fail
            obtain ⟨K, hK⟩ : ∃ K, k + 1 = K := ⟨_, rfl⟩
            rw [hK] at hki hpl hge
            have eK : (k : Int) + 1 = (K : Int) := by omega
            simp only [eK]
            clear eK hK hck cl
            have hplace : Hid (Place M x (K)) := Lib.hid ⟨by rw [hMi.out]; exact hki, hpl.out, hge.out⟩
            have hnF : Hid (Fall (M.take (K) ++ [x] ++ M.drop (K))) := Lib.hid (ins_fall hfall.out hplace.out)
            have hnP := Lib.hid (hp2.out (K))
            have hnL : Hid ((M.take (K) ++ [x] ++ M.drop (K)).length = i + 1) := Lib.hid (by rw [List.length_append, List.length_append, List.length_take, List.length_drop, List.length_singleton, hMi.out]; omega)
            obtain ⟨wq, hwq⟩ : ∃ wq, w1.drewN nq = wq := ⟨_, rfl⟩
            have hcq : wq.cell? ⟨b, off + i, none⟩ = some (.float .f64 x) := by rw [← hwq]; exact hc1
            have hblt : b < wq.heap.size := World.block_lt_of_cell? wq _ hcq
            have hinq : Hid (In w wq (.slice (some ⟨b2, off2, none⟩) i c) M) := Lib.hid (by rw [← hwq]; exact hin.out.to (by have := below_drewN (below_drewN (Below.refl wr.heap.size wr) m) nq; rw [hw1.out] at this; exact this))
            simp only [hwq]
            clear hwq hplace hge hpl hfall hp2 hin
            clear hc hc1 hw1
            have hki2 : K ≤ i := hki
            have hb1 := hinq.out.row
            rw [hMi.out] at hb1
            have hs1 : Hid (∀ W, Below wq.heap.size wq W → Src Tryd.prog 1 22 (.slice (some ⟨b2, off2, none⟩) (K) c) (K) (fc (M.take (K))) W) := Lib.hid fun W hW => by
              have h4 := (hb1.take (k := K) hki2).below hW
              rw [Nat.mul_one, show (fc M).take (K) = fc (M.take (K)) by unfold fc; rw [List.map_take]] at h4
              exact src_row h4 (fc_one _)
            have hs3 : Hid (∀ a1, (a1 = ((some ⟨b2, off2, none⟩) : Option Addr).map (·.add ((K) * 1)) ∨ c = K ∧ a1 = (some ⟨b2, off2, none⟩)) → ∀ W, Below wq.heap.size wq W → Src Tryd.prog 1 22 (.slice a1 (i - (K)) (c - (K))) (i - (K)) (fc (M.drop (K))) W) := Lib.hid fun a1 ha1 W hW => by
              have h4 := (hb1.drop (k := K) (a1 := a1) hki2 ha1).1.below hW
              rw [Nat.mul_one, show (fc M).drop (K) = fc (M.drop (K)) by unfold fc; rw [List.map_drop]] at h4
              exact src_row h4 (fc_one _)
            have hci : i ≤ c ∧ c ≤ 9223372036854775807 := by
              obtain ⟨ao, b3, off3, cap3, e, h5, h6, _⟩ := hb1.cell
              injection e with e1 e2 e3
              unfold maxLen at h6
              omega
            obtain ⟨hci1, hci2⟩ := hci
            have hbd1 : 0 + (K) ≤ 1000000 := by omega
            have hbd2 : (K) + 1 ≤ 1000000 := by omega
            have hbd3 : (K) + 1 + (i - (K)) ≤ 1000000 := by omega
            have hinB := Lib.hid hinq.out.below
            have hinS : Hid (w.heap.size ≤ wq.heap.size) := Lib.hid hinq.out.below.size
            have hinW := Lib.hid hinq.out.wf
            clear hb1 hinq
            have hrel2 : Hid (∀ w3 s3 c3, Own wq w3 (.slice s3 ((K) + 1 + (i - (K))) c3) (fc (M.take (K)) ++ [.float .f64 x] ++ fc (M.drop (K))) ((K) + 1 + (i - (K))) → In w w3 (.slice s3 (i + 1) c3) (M.take (K) ++ [x] ++ M.drop (K))) := Lib.hid fun w3 s3 c3 ho => by
              have hlk : (K) + 1 + (i - (K)) = i + 1 := by omega
              rw [hlk] at ho
              refine ⟨by rw [hnL.out, fc_app, fc_app]; exact ho.row, fun k' hk' => Nat.le_trans hinS.out (ho.low k' hk'), hinB.out.trans (ho.below.mono hinB.out.size), fun y hy => ?_⟩
              rcases List.mem_append.1 hy with hy | hy
              · rcases List.mem_append.1 hy with hy | hy
                · exact hinW.out y (List.mem_of_mem_take hy)
                · simp only [List.mem_singleton] at hy
                  subst hy
                  exact hwx.out
              · exact hinW.out y (List.mem_of_mem_drop hy)
            clear hnL hinS hinB hinW
            have e5 : K ≤ c := by omega
            by_cases hck1 : c = K
            · subst hck1
              replace hs3 := Lib.hid (hs3.out (some ⟨b2, off2, none⟩) (Or.inr ⟨rfl, rfl⟩))
              rw [Nat.sub_self, show i - c = 0 by omega] at hs3
              rw [show i - c = 0 by omega] at hrel2 hbd3
              go_wp2_with fail
              go_region_law (first | (refine step_append_g rfl (.tmp 42) (.tmp 45) rfl rfl eltF (ho2.out.row.below (by (repeat (first | exact Below.refl _ _ | refine below_alloc ?_ _ | refine below_drewN ?_ _ | refine Below.drew ?_)))) rfl rfl (hs3.out _ (ho2.out.below.trans (((by (repeat (first | exact Below.refl _ _ | refine below_alloc ?_ _ | refine below_drewN ?_ _ | refine Below.drew ?_))) : Below w2.heap.size w2 _).mono ho2.out.below.size))) hbd3 ?_; intro v3 w3 g5 g6; have ho3 := Lib.hid (ho2.out.more (by (repeat (first | exact Below.refl _ _ | refine below_alloc ?_ _ | refine below_drewN ?_ _ | refine Below.drew ?_))) g5 g6); obtain ⟨s3, c3, rfl⟩ := g5.slice; clear g5 g6) | (refine step_append_g rfl (.tmp 36) (.tmp 41) rfl rfl eltF (ho1.out.row.below (by (repeat (first | exact Below.refl _ _ | refine below_alloc ?_ _ | refine below_drewN ?_ _ | refine Below.drew ?_)))) rfl rfl (src_x (x := x) (by first | exact hjb.out | exact heap_alloc_new w1' _)) hbd2 ?_; intro v2 w2 g3 g4; have ho2 := Lib.hid (ho1.out.more (by (repeat (first | exact Below.refl _ _ | refine below_alloc ?_ _ | refine below_drewN ?_ _ | refine Below.drew ?_))) g3 g4); clear g3 g4) | (refine step_append_g rfl (.tmp 32) (.tmp 35) rfl rfl eltF (lit_row (by first | exact lt_new _ _ | exact lt_new1 (by exact size_new wq _) | exact Nat.lt_trans (lt_new _ _) (lt_new _ _))) rfl rfl (hs1.out _ (by (repeat (first | exact Below.refl _ _ | refine below_alloc ?_ _ | refine below_drewN ?_ _ | refine Below.drew ?_)))) hbd1 ?_; intro v1 w1' g1 g2; have hk := own_one (wq := wq) (by (repeat (first | exact Below.refl _ _ | refine below_alloc ?_ _ | refine below_drewN ?_ _ | refine Below.drew ?_))) (by first | exact Nat.le_refl _ | exact Nat.le_succ _ | exact Below.size (w := wq) (by (repeat (first | exact Below.refl _ _ | refine below_alloc ?_ _ | refine below_drewN ?_ _ | refine Below.drew ?_)))) g1 g2; have ho1 := Lib.hid hk.1; have hk3 := Lib.hid hk.2; have hd9 := cell_then ho1.out.below hcq; clear hk g1 g2; try (first | (have hjb : Hid (w1'.heap[wq.heap.size + 1]? = some (.cells #[.float .f64 x] 23 (0, 0))) := Lib.hid (hk3.out (wq.heap.size + 1) _ (Nat.succ_ne_self _) (heap_new1 (w := wq) (by exact size_new wq _)))) | (have hjb : Hid (w1'.heap[wq.heap.size]? = some (.cells #[.float .f64 x] 23 (0, 0))) := Lib.hid (hk3.out wq.heap.size _ (Nat.succ_ne_self _).symm (old_new (w := wq) (C := #[.float .f64 x]) (t := 23) (by (repeat (first | exact Below.refl _ _ | refine below_alloc ?_ _ | refine below_drewN ?_ _ | refine Below.drew ?_)))))))))
              all_goals
                have hin3 := Lib.hid (hrel2.out _ _ _ ho3.out)
                clear ho3 hrel2 hs1 hs3
                go_wp2_with fail
                go_roundw
                case rel => exact ⟨i + 1, _, s3, c3, by first | rfl | (congr 1; omega), by go_num, by omega, Lib.hid (by rw [List.length_append, List.length_append, List.length_take, List.length_drop, List.length_singleton, hMi.out]; omega), hin3, hnF, hnP⟩
                case measure => simp [RowKit.intOf]; omega
            · replace hs3 := Lib.hid (hs3.out (some ⟨b2, off2 + K, none⟩) (Or.inl (by rw [Nat.mul_one]; simp [addr_add])))
              go_wp2_with fail
              go_region_law (first | (refine step_append_g rfl (.tmp 42) (.tmp 45) rfl rfl eltF (ho2.out.row.below (by (repeat (first | exact Below.refl _ _ | refine below_alloc ?_ _ | refine below_drewN ?_ _ | refine Below.drew ?_)))) rfl rfl (hs3.out _ (ho2.out.below.trans (((by (repeat (first | exact Below.refl _ _ | refine below_alloc ?_ _ | refine below_drewN ?_ _ | refine Below.drew ?_))) : Below w2.heap.size w2 _).mono ho2.out.below.size))) hbd3 ?_; intro v3 w3 g5 g6; have ho3 := Lib.hid (ho2.out.more (by (repeat (first | exact Below.refl _ _ | refine below_alloc ?_ _ | refine below_drewN ?_ _ | refine Below.drew ?_))) g5 g6); obtain ⟨s3, c3, rfl⟩ := g5.slice; clear g5 g6) | (refine step_append_g rfl (.tmp 36) (.tmp 41) rfl rfl eltF (ho1.out.row.below (by (repeat (first | exact Below.refl _ _ | refine below_alloc ?_ _ | refine below_drewN ?_ _ | refine Below.drew ?_)))) rfl rfl (src_x (x := x) (by first | exact hjb.out | exact heap_alloc_new w1' _)) hbd2 ?_; intro v2 w2 g3 g4; have ho2 := Lib.hid (ho1.out.more (by (repeat (first | exact Below.refl _ _ | refine below_alloc ?_ _ | refine below_drewN ?_ _ | refine Below.drew ?_))) g3 g4); clear g3 g4) | (refine step_append_g rfl (.tmp 32) (.tmp 35) rfl rfl eltF (lit_row (by first | exact lt_new _ _ | exact lt_new1 (by exact size_new wq _) | exact Nat.lt_trans (lt_new _ _) (lt_new _ _))) rfl rfl (hs1.out _ (by (repeat (first | exact Below.refl _ _ | refine below_alloc ?_ _ | refine below_drewN ?_ _ | refine Below.drew ?_)))) hbd1 ?_; intro v1 w1' g1 g2; have hk := own_one (wq := wq) (by (repeat (first | exact Below.refl _ _ | refine below_alloc ?_ _ | refine below_drewN ?_ _ | refine Below.drew ?_))) (by first | exact Nat.le_refl _ | exact Nat.le_succ _ | exact Below.size (w := wq) (by (repeat (first | exact Below.refl _ _ | refine below_alloc ?_ _ | refine below_drewN ?_ _ | refine Below.drew ?_)))) g1 g2; have ho1 := Lib.hid hk.1; have hk3 := Lib.hid hk.2; have hd9 := cell_then ho1.out.below hcq; clear hk g1 g2; try (first | (have hjb : Hid (w1'.heap[wq.heap.size + 1]? = some (.cells #[.float .f64 x] 23 (0, 0))) := Lib.hid (hk3.out (wq.heap.size + 1) _ (Nat.succ_ne_self _) (heap_new1 (w := wq) (by exact size_new wq _)))) | (have hjb : Hid (w1'.heap[wq.heap.size]? = some (.cells #[.float .f64 x] 23 (0, 0))) := Lib.hid (hk3.out wq.heap.size _ (Nat.succ_ne_self _).symm (old_new (w := wq) (C := #[.float .f64 x]) (t := 23) (by (repeat (first | exact Below.refl _ _ | refine below_alloc ?_ _ | refine below_drewN ?_ _ | refine Below.drew ?_)))))))))
              all_goals
                have hin3 := Lib.hid (hrel2.out _ _ _ ho3.out)
                clear ho3 hrel2 hs1 hs3
                go_wp2_with fail
                go_roundw
                case rel => exact ⟨i + 1, _, s3, c3, by first | rfl | (congr 1; omega), by go_num, by omega, Lib.hid (by rw [List.length_append, List.length_append, List.length_take, List.length_drop, List.length_singleton, hMi.out]; omega), hin3, hnF, hnP⟩
                case measure => simp [RowKit.intOf]; omega
    · obtain rfl : i = l := by omega
      obtain ⟨K, hK⟩ : ∃ K, min n.toNat i = K := ⟨_, rfl⟩
      obtain ⟨m1, hm1⟩ : ∃ m1, min n (i : Int) = m1 := ⟨_, rfl⟩
      have hm2 : max 0 m1 = (K : Int) := by omega
      have hKi : K ≤ i := by omega
      have hb1 := hin.out.row
      have hti : Hid (M.take n.toNat = M.take K) := Lib.hid (by
        rcases Nat.le_total n.toNat i with h4 | h4
        · rw [show K = n.toNat by omega]
        · rw [List.take_of_length_le (by rw [hMi.out]; exact h4), List.take_of_length_le (by rw [hMi.out]; omega)])
      have hci : i ≤ c ∧ c ≤ 9223372036854775807 := by
        obtain ⟨ao, b3, off3, cap3, e, h5, h6, _⟩ := hb1.cell
        injection e with e1 e2 e3
        rw [hMi.out] at h5
        unfold maxLen at h6
        omega
      obtain ⟨hci1, hci2⟩ := hci
      rw [hMi.out] at hb1
      have hlk : (M.take K).length = K := by rw [List.length_take, hMi.out]; omega
      have hfin : Hid (RMosts w zs n.toNat (.returned (.slice s K c)) wr) := Lib.hid ⟨_, M, rfl, by
        rw [hti.out]
        have h4 := hb1.take (k := K) hKi
        rw [Nat.mul_one, show (fc M).take K = fc (M.take K) by unfold fc; rw [List.map_take]] at h4
        refine Fls.of_row (by rw [hlk]; exact h4) (fun y hy => hin.out.wf y (List.mem_of_mem_take hy)), by
        have := hperm.out
        rw [List.take_of_length_le (by rw [hl.out]; omega)] at this
        exact this, hfall.out, hin.out.below⟩
      have hmn := run_min2 (P := Tryd.prog) hm1
      have hmx := run_max2 (P := Tryd.prog) hm2
      have hKc : K ≤ c := by omega
      clear hK hm1 hm2 hb1 hti hlk hfall hperm hin hMi
      go_wp2_with fail
      go_ret
      exact hfin.out
end Pr
end Go.Proofs.YtinlbenifmcgaaaDoor
