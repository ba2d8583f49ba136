/- The document's own Put, where the number is new: three appends in one region. -/
import Derived.Test.YtpclacaiabbmjaaPutL
namespace Go.Proofs.Ytpclacaiabbmjaa
open Go.RowKit Go.Lib Fx Ho Qu
set_option linter.unusedVariables false
namespace Rw
variable {w w' : World} {v : Value} {zs A B : List Int} {S : Home}
theorem lt_new (w : World) (o : Obj) : w.heap.size < (w.alloc o).heap.size := by
  show _ < (w.heap.push _).size; rw [Array.size_push]; omega
theorem size_new (w : World) (o : Obj) : (w.alloc o).heap.size = w.heap.size + 1 := by
  show (w.heap.push _).size = _; rw [Array.size_push]
theorem lt_new1 {w W : World} {o : Obj} (h : W.heap.size = w.heap.size + 1) : w.heap.size + 1 < (W.alloc o).heap.size := by have := lt_new W o; omega
theorem heap_new1 {w W : World} {C : Array Value} {t : TypeId} (h : W.heap.size = w.heap.size + 1) : (W.alloc (.cells C t)).heap[w.heap.size + 1]? = some (.cells C t (0, 0)) := by rw [← h]; exact heap_alloc_new _ _
theorem old_new {w W : World} {C : Array Value} {t : TypeId} (hb : Below (w.alloc (.cells C t)).heap.size (w.alloc (.cells C t)) W) : W.heap[w.heap.size]? = some (.cells C t (0, 0)) := (hb.block _ (lt_new _ _)).trans (heap_alloc_new _ _)
theorem lit_off {W : World} {N : Nat} (h : N < W.heap.size) : OffRow W (.slice (some ⟨N, 0, none⟩) 0 0) [] := ⟨some ⟨N, 0, none⟩, N, 0, 0, rfl, ⟨by decide, fun h => (by simp at h), fun h => (by simp at h), by simp [cells], fun j u h => (by simp [cells] at h), fun j h => (by simp at h)⟩, ⟨by decide, fun j h => by omega⟩, .inl ⟨rfl, h⟩⟩
theorem src1_at {W : World} {N : Nat} {x : Int} (hb : W.heap[N]? = some (.cells #[.int .i64 x] 3 (0, 0))) : Src Try.prog 1 41 (.slice (some ⟨N, 0, none⟩) 1 1) [x].length (cells [x]) W :=
  Src.ofSlice _ Try.underlying41 ⟨N, 0, none⟩ 1 1 (cells [x]) rfl (fun j u hj => by
    cases j with
    | zero => simp [cells] at hj; subst hj; exact cell_of hb rfl
    | succ j => simp [cells] at hj) (cells_one _)
theorem off_one {wq W w1 : World} {N : Nat} {L : List Int} {v1 : Value} (hb : Below wq.heap.size wq W) (hN : wq.heap.size ≤ N) (g1 : OffRow w1 v1 ([] ++ L)) (g2 : Wrote (fun k => (Value.slice (some ⟨N, 0, none⟩) 0 0).ownBlock = some k) W (fun k => v1.ownBlock = some k) w1) : OffRow w1 v1 L ∧ Low wq.heap.size (fun k => v1.ownBlock = some k) ∧ Below wq.heap.size wq w1 ∧ ∀ k o, k ≠ N → W.heap[k]? = some o → w1.heap[k]? = some o := by
  have hlow := low_some (n := 0) (c := 0) hN
  exact ⟨g1, g2.low hlow hb.size, g2.below hlow hb, fun k o hk ho => (g2.block k (block_lt ho) (fun e => hk (Option.some.inj e).symm)).trans ho⟩
def PutNew (w : World) (zs : List Int) (e : Ending) (w' : World) : Prop := ∃ v', e = .returned v' ∧ OffRow w' v' zs ∧ Low w.heap.size (fun k => v'.ownBlock = some k) ∧ Below w.heap.size w w'
set_option maxRecDepth 100000 in
set_option maxHeartbeats 2000000 in
theorem put_nil (w : World) (x : Int) : Calls Try.prog 85 #[.slice none 0 0, .int .i64 x] w (PutNew w [x]) := by
  have hbA : ([] : List Int).length + ([] : List Int).length ≤ 1000000 := by decide
  have hb1 : ([] : List Int).length + [x].length ≤ 1000000 := by show 0 + 1 ≤ _; omega
  have hbB : ([x] : List Int).length + ([] : List Int).length ≤ 1000000 := by show 1 + 0 ≤ _; omega
  have hend : Hid (∀ W v, OffRow W v ([x] ++ []) → OffRow W v [x]) := fun W v h => h
  unfold PutNew
  go_enter Try.func85, Try.ntmps85
  go_wp2_with fail
  go_loopw [5] (fun u wr => u = .int .i64 0 ∧ wr = w) (fun u _ => 0)
  case atStart => exact ⟨rfl, rfl⟩
  case round =>
    obtain ⟨rfl, e⟩ := hrel
    subst e
    go_wp2_with fail
    go_wp2_with fail
    go_region_law (first
      | (refine step_append_low rfl (.tmp 40) (.tmp 43) rfl rfl wr.heap.size (off_below hr8.out (by (repeat (first | exact Below.refl _ _ | refine below_alloc ?_ _ | refine below_drewN ?_ _ | refine Below.drew ?_)))) hl8.out (by exact hB8.out.size) rfl rfl (Src.ofNil _ Try.underlying41 0) hbB ?_; intro v9 w9 hr9 hl9 hb9; have hfin := hend.out _ _ hr9; have hb99 : Below wr.heap.size wr w9 := Below.trans (by (repeat (first | exact hB8.out | exact Below.refl _ _ | refine below_alloc ?_ _ | refine below_drewN ?_ _ | refine Below.drew ?_))) hb9)
      | (refine step_append_off rfl (.tmp 37) (.tmp 39) rfl rfl (off_below hr7.out (by (repeat (first | exact Below.refl _ _ | refine below_alloc ?_ _ | refine below_drewN ?_ _ | refine Below.drew ?_)))) rfl rfl (src1_at (x := x) (by first | exact hjb.out | exact heap_alloc_new w7 _)) hb1 ?_; intro v8 w8 g3 g4; have hl8 := Lib.hid (g4.low hl7.out (Below.size (w := wr) (by (repeat (first | exact hB7.out | exact Below.refl _ _ | refine below_alloc ?_ _ | refine below_drewN ?_ _ | refine Below.drew ?_))))); have hB8 := Lib.hid (g4.below hl7.out (by (repeat (first | exact hB7.out | exact Below.refl _ _ | refine below_alloc ?_ _ | refine below_drewN ?_ _ | refine Below.drew ?_)))); have hr8 := Lib.hid g3; clear g3 g4)
      | (refine step_append_off rfl (.tmp 33) (.tmp 36) rfl rfl (lit_off (by first | exact lt_new _ _ | exact lt_new1 (by exact size_new wr _) | exact Nat.lt_trans (lt_new _ _) (lt_new _ _))) rfl rfl (Src.ofNil _ Try.underlying41 0) hbA ?_; intro v7 w7 g1 g2; have hk := off_one (wq := wr) (by (repeat (first | exact Below.refl _ _ | refine below_alloc ?_ _ | refine below_drewN ?_ _ | refine Below.drew ?_))) (by first | exact Nat.le_refl _ | exact Nat.le_succ _ | exact Below.size (w := wr) (by (repeat (first | exact Below.refl _ _ | refine below_alloc ?_ _ | refine below_drewN ?_ _ | refine Below.drew ?_)))) g1 g2; have hr7 := Lib.hid hk.1; have hl7 := Lib.hid hk.2.1; have hB7 := Lib.hid hk.2.2.1; have hk3 := Lib.hid hk.2.2.2; clear hk g1 g2; try (first
          | (have hjb : Hid (w7.heap[wr.heap.size + 1]? = some (.cells #[.int .i64 x] 3 (0, 0))) := Lib.hid (hk3.out (wr.heap.size + 1) _ (Nat.succ_ne_self _) (heap_new1 (w := wr) (by exact size_new wr _))))
          | (have hjb : Hid (w7.heap[wr.heap.size]? = some (.cells #[.int .i64 x] 3 (0, 0))) := Lib.hid (hk3.out wr.heap.size _ (Nat.succ_ne_self _).symm (old_new (w := wr) (C := #[.int .i64 x]) (t := 3) (by (repeat (first | exact Below.refl _ _ | refine below_alloc ?_ _ | refine below_drewN ?_ _ | refine Below.drew ?_)))))))))
    all_goals
      go_wp2_with fail
      go_ret
      exact ⟨_, rfl, hfin, hl9, hb99⟩
set_option maxRecDepth 100000 in
set_option maxHeartbeats 2000000 in
/-- Where the number is new: it goes between the lesser ones and the greater ones, in a new row. -/
theorem put_new {x : Int} (h : OffRow w v (A ++ B)) (hlow : ∀ a ∈ A, a < x) (hup : ∀ y C, B = y :: C → x < y) (hs : (A ++ B).length ≤ 500000) : Calls Try.prog 85 #[v, .int .i64 x] w (PutNew w (A ++ x :: B)) := by
  obtain ⟨ao, b, off, cap, rfl, hc, ⟨hcm, hfr⟩, hx⟩ := h
  rcases hx with ⟨rfl, hbw⟩ | ⟨rfl, rfl⟩
  rotate_left
  · have h1 := hc.le
    have h0 : (A ++ B).length = 0 := by omega
    have h2 := List.eq_nil_of_length_eq_zero h0
    obtain ⟨rfl, rfl⟩ := List.append_eq_nil_iff.1 h2
    exact put_nil w x
  obtain ⟨k, hk⟩ : ∃ k, A.length = k := ⟨_, rfl⟩
  obtain ⟨r, hr⟩ : ∃ r, B.length = r := ⟨_, rfl⟩
  obtain ⟨l, hl⟩ : ∃ l, (A ++ B).length = l := ⟨_, rfl⟩
  have hlk : l = k + r := by rw [← hl, List.length_append, hk, hr]
  have hcell : ∀ j, j < l → w.cell? ⟨b, off + j, none⟩ = some (.int .i64 ((A ++ B).getD j 0)) := fun j hj => by
    refine hc.olds j _ ?_
    unfold cells
    rw [List.getElem?_map, List.getD_eq_getElem?_getD, List.getElem?_eq_getElem (by omega)]; rfl
  have hlo : Hid (∀ j, j < k → ∃ y, w.cell? ⟨b, off + j, none⟩ = some (.int .i64 y) ∧ y < x) := fun j hj => by
    refine ⟨_, hcell j (by omega), ?_⟩
    rw [gd_left (by omega), List.getD_eq_getElem?_getD, List.getElem?_eq_getElem (by omega)]
    exact hlow _ (List.getElem_mem _)
  have hat : Hid (0 < r → ∃ y, w.cell? ⟨b, off + k, none⟩ = some (.int .i64 y) ∧ x < y) := fun h0 => by
    refine ⟨_, hcell k (by omega), ?_⟩
    rw [gd_right (by omega), hk, Nat.sub_self]
    cases B with
    | nil => simp at hr; omega
    | cons y C => exact hup y C rfl
  have srcA : Hid (∀ W c, Below w.heap.size w W → Src Try.prog 1 41 (.slice (some ⟨b, off, none⟩) k c) A.length (cells A) W) := fun W c hb => by
    rw [← hk]
    exact Src.ofSlice W Try.underlying41 ⟨b, off, none⟩ A.length c (cells A) (by rw [cells_len]; omega) (fun j u hj => by
      have hj2 := (List.getElem?_eq_some_iff.1 hj).1
      rw [cells_len] at hj2
      rw [addr_add, cell_then hb (hcell j (by omega)), gd_left hj2, ← hj]
      unfold cells
      rw [List.getElem?_map, List.getD_eq_getElem?_getD, List.getElem?_eq_getElem hj2]; rfl) (cells_one _)
  have srcB : Hid (∀ W o c, Below w.heap.size w W → (0 < r → o = off + k) → Src Try.prog 1 41 (.slice (some ⟨b, o, none⟩) (l - k) c) B.length (cells B) W) := fun W o c hb ho => by
    rw [show l - k = B.length by omega]
    exact Src.ofSlice W Try.underlying41 ⟨b, o, none⟩ B.length c (cells B) (by rw [cells_len]; omega) (fun j u hj => by
      have hj2 := (List.getElem?_eq_some_iff.1 hj).1
      rw [cells_len] at hj2
      rw [addr_add, ho (by omega), Nat.add_assoc, cell_then hb (hcell (k + j) (by omega)), gd_right (by omega), show k + j - A.length = j by omega, ← hj]
      unfold cells
      rw [List.getElem?_map, List.getD_eq_getElem?_getD, List.getElem?_eq_getElem hj2]; rfl) (cells_one _)
  have hbA : ([] : List Int).length + A.length ≤ 1000000 := by show 0 + A.length ≤ _; omega
  have hb1 : A.length + [x].length ≤ 1000000 := by show A.length + 1 ≤ _; omega
  have hbB : (A ++ [x]).length + B.length ≤ 1000000 := by rw [List.length_append]; show A.length + 1 + B.length ≤ _; omega
  have hend : Hid (∀ W v, OffRow W v ((A ++ [x]) ++ B) → OffRow W v (A ++ x :: B)) := fun W v h => by rw [List.append_assoc] at h; exact h
  have hcap : l ≤ cap := by have := hc.le; omega
  have hlm : cap ≤ 9223372036854775807 := by unfold maxLen at hcm; omega
  have hlk2 := Lib.hid hlk
  have hkl : k ≤ l := by omega
  rw [hl]
  clear hc hcm hfr hcell hlow hup hs hl hk hr hbw hlk
  unfold PutNew
  go_enter Try.func85, Try.ntmps85
  go_wp2_with fail
  go_loopw [5] (fun u wr => ∃ i : Nat, u = .int .i64 i ∧ i ≤ k ∧ wr = w) (fun u _ => (k - (RowKit.intOf u).toNat))
  case atStart => exact ⟨0, rfl, by omega, rfl⟩
  case round =>
    obtain ⟨i, rfl, i1, e⟩ := hrel
    subst e
    have i0 : (0 : Int) ≤ (i : Int) := by omega
    by_cases hik : i < k
    · obtain ⟨y, k1, hy⟩ := hlo.out i hik
      have i2 : (i : Int) < (l : Int) := by omega
      go_wp2_with fail
      go_roundw
      case rel => exact ⟨i + 1, by go_num, by omega, by first | rfl | trivial⟩
      case measure => simp [RowKit.intOf]; omega
    · obtain rfl : i = k := by omega
      have c0 : (i : Int) ≤ (cap : Int) := by omega
      have c1 : (i : Int) ≤ (l : Int) := by omega
      clear hlo
      by_cases hr0 : 0 < r
      · obtain ⟨y, k1, hy⟩ := hat.out hr0
        have i2 : (i : Int) < (l : Int) := by have := hlk2.out; omega
        have hy2 : ¬ (y < x) := by omega
        have hy3 : (y == x) = false := by rw [beq_eq_false_iff_ne]; omega
        have hci : ¬ (i = cap) := by have := hlk2.out; omega
        have hci2 : ¬ (cap = i) := fun e => hci e.symm
        clear hat
        go_wp2_with fail
        go_wp2_with fail
        go_region_law (first
          | (refine step_append_low rfl (.tmp 40) (.tmp 43) rfl rfl wr.heap.size (off_below hr8.out (by (repeat (first | exact Below.refl _ _ | refine below_alloc ?_ _ | refine below_drewN ?_ _ | refine Below.drew ?_)))) hl8.out (by exact hB8.out.size) rfl rfl (srcB.out _ (off + i) _ (by (repeat (first | exact hB8.out | exact Below.refl _ _ | refine below_alloc ?_ _ | refine below_drewN ?_ _ | refine Below.drew ?_))) (fun _ => rfl)) hbB ?_; intro v9 w9 hr9 hl9 hb9; have hfin := hend.out _ _ hr9; have hb99 : Below wr.heap.size wr w9 := Below.trans (by (repeat (first | exact hB8.out | exact Below.refl _ _ | refine below_alloc ?_ _ | refine below_drewN ?_ _ | refine Below.drew ?_))) hb9)
          | (refine step_append_off rfl (.tmp 37) (.tmp 39) rfl rfl (off_below hr7.out (by (repeat (first | exact Below.refl _ _ | refine below_alloc ?_ _ | refine below_drewN ?_ _ | refine Below.drew ?_)))) rfl rfl (src1_at (x := x) (by first | exact hjb.out | exact heap_alloc_new w7 _)) hb1 ?_; intro v8 w8 g3 g4; have hl8 := Lib.hid (g4.low hl7.out (Below.size (w := wr) (by (repeat (first | exact hB7.out | exact Below.refl _ _ | refine below_alloc ?_ _ | refine below_drewN ?_ _ | refine Below.drew ?_))))); have hB8 := Lib.hid (g4.below hl7.out (by (repeat (first | exact hB7.out | exact Below.refl _ _ | refine below_alloc ?_ _ | refine below_drewN ?_ _ | refine Below.drew ?_)))); have hr8 := Lib.hid g3; clear g3 g4)
          | (refine step_append_off rfl (.tmp 33) (.tmp 36) rfl rfl (lit_off (by first | exact lt_new _ _ | exact lt_new1 (by exact size_new wr _) | exact Nat.lt_trans (lt_new _ _) (lt_new _ _))) rfl rfl (srcA.out _ _ (by (repeat (first | exact Below.refl _ _ | refine below_alloc ?_ _ | refine below_drewN ?_ _ | refine Below.drew ?_)))) hbA ?_; intro v7 w7 g1 g2; have hk := off_one (wq := wr) (by (repeat (first | exact Below.refl _ _ | refine below_alloc ?_ _ | refine below_drewN ?_ _ | refine Below.drew ?_))) (by first | exact Nat.le_refl _ | exact Nat.le_succ _ | exact Below.size (w := wr) (by (repeat (first | exact Below.refl _ _ | refine below_alloc ?_ _ | refine below_drewN ?_ _ | refine Below.drew ?_)))) g1 g2; have hr7 := Lib.hid hk.1; have hl7 := Lib.hid hk.2.1; have hB7 := Lib.hid hk.2.2.1; have hk3 := Lib.hid hk.2.2.2; clear hk g1 g2; try (first
              | (have hjb : Hid (w7.heap[wr.heap.size + 1]? = some (.cells #[.int .i64 x] 3 (0, 0))) := Lib.hid (hk3.out (wr.heap.size + 1) _ (Nat.succ_ne_self _) (heap_new1 (w := wr) (by exact size_new wr _))))
              | (have hjb : Hid (w7.heap[wr.heap.size]? = some (.cells #[.int .i64 x] 3 (0, 0))) := Lib.hid (hk3.out wr.heap.size _ (Nat.succ_ne_self _).symm (old_new (w := wr) (C := #[.int .i64 x]) (t := 3) (by (repeat (first | exact Below.refl _ _ | refine below_alloc ?_ _ | refine below_drewN ?_ _ | refine Below.drew ?_)))))))))
        all_goals
          go_wp2_with fail
          go_ret
          exact ⟨_, rfl, hfin, hl9, hb99⟩
      · have i2 : ¬ ((i : Int) < (l : Int)) := by have := hlk2.out; omega
        have hr1 := Lib.hid hr0
        clear hat hr0
        by_cases hci : i = cap
        · have srcN : Hid (∀ W, Below wr.heap.size wr W → Src Try.prog 1 41 (.slice (some ⟨b, off, none⟩) 0 0) B.length (cells B) W) := fun W hb => by
            have h9 := srcB.out W off 0 hb (fun h => absurd h hr1.out)
            rw [show l - i = 0 by omega] at h9
            exact h9
          subst hci
          go_wp2_with fail
          go_wp2_with fail
          go_region_law (first
            | (refine step_append_low rfl (.tmp 40) (.tmp 43) rfl rfl wr.heap.size (off_below hr8.out (by (repeat (first | exact Below.refl _ _ | refine below_alloc ?_ _ | refine below_drewN ?_ _ | refine Below.drew ?_)))) hl8.out (by exact hB8.out.size) rfl rfl (srcN.out _ (by (repeat (first | exact hB8.out | exact Below.refl _ _ | refine below_alloc ?_ _ | refine below_drewN ?_ _ | refine Below.drew ?_)))) hbB ?_; intro v9 w9 hr9 hl9 hb9; have hfin := hend.out _ _ hr9; have hb99 : Below wr.heap.size wr w9 := Below.trans (by (repeat (first | exact hB8.out | exact Below.refl _ _ | refine below_alloc ?_ _ | refine below_drewN ?_ _ | refine Below.drew ?_))) hb9)
            | (refine step_append_off rfl (.tmp 37) (.tmp 39) rfl rfl (off_below hr7.out (by (repeat (first | exact Below.refl _ _ | refine below_alloc ?_ _ | refine below_drewN ?_ _ | refine Below.drew ?_)))) rfl rfl (src1_at (x := x) (by first | exact hjb.out | exact heap_alloc_new w7 _)) hb1 ?_; intro v8 w8 g3 g4; have hl8 := Lib.hid (g4.low hl7.out (Below.size (w := wr) (by (repeat (first | exact hB7.out | exact Below.refl _ _ | refine below_alloc ?_ _ | refine below_drewN ?_ _ | refine Below.drew ?_))))); have hB8 := Lib.hid (g4.below hl7.out (by (repeat (first | exact hB7.out | exact Below.refl _ _ | refine below_alloc ?_ _ | refine below_drewN ?_ _ | refine Below.drew ?_)))); have hr8 := Lib.hid g3; clear g3 g4)
            | (refine step_append_off rfl (.tmp 33) (.tmp 36) rfl rfl (lit_off (by first | exact lt_new _ _ | exact lt_new1 (by exact size_new wr _) | exact Nat.lt_trans (lt_new _ _) (lt_new _ _))) rfl rfl (srcA.out _ _ (by (repeat (first | exact Below.refl _ _ | refine below_alloc ?_ _ | refine below_drewN ?_ _ | refine Below.drew ?_)))) hbA ?_; intro v7 w7 g1 g2; have hk := off_one (wq := wr) (by (repeat (first | exact Below.refl _ _ | refine below_alloc ?_ _ | refine below_drewN ?_ _ | refine Below.drew ?_))) (by first | exact Nat.le_refl _ | exact Nat.le_succ _ | exact Below.size (w := wr) (by (repeat (first | exact Below.refl _ _ | refine below_alloc ?_ _ | refine below_drewN ?_ _ | refine Below.drew ?_)))) g1 g2; have hr7 := Lib.hid hk.1; have hl7 := Lib.hid hk.2.1; have hB7 := Lib.hid hk.2.2.1; have hk3 := Lib.hid hk.2.2.2; clear hk g1 g2; try (first
                | (have hjb : Hid (w7.heap[wr.heap.size + 1]? = some (.cells #[.int .i64 x] 3 (0, 0))) := Lib.hid (hk3.out (wr.heap.size + 1) _ (Nat.succ_ne_self _) (heap_new1 (w := wr) (by exact size_new wr _))))
                | (have hjb : Hid (w7.heap[wr.heap.size]? = some (.cells #[.int .i64 x] 3 (0, 0))) := Lib.hid (hk3.out wr.heap.size _ (Nat.succ_ne_self _).symm (old_new (w := wr) (C := #[.int .i64 x]) (t := 3) (by (repeat (first | exact Below.refl _ _ | refine below_alloc ?_ _ | refine below_drewN ?_ _ | refine Below.drew ?_)))))))))
          all_goals
            go_wp2_with fail
            go_ret
            exact ⟨_, rfl, hfin, hl9, hb99⟩
        · have hci2 : ¬ (cap = i) := fun e => hci e.symm
          go_wp2_with fail
          go_wp2_with fail
          go_region_law (first
            | (refine step_append_low rfl (.tmp 40) (.tmp 43) rfl rfl wr.heap.size (off_below hr8.out (by (repeat (first | exact Below.refl _ _ | refine below_alloc ?_ _ | refine below_drewN ?_ _ | refine Below.drew ?_)))) hl8.out (by exact hB8.out.size) rfl rfl (srcB.out _ (off + i) _ (by (repeat (first | exact hB8.out | exact Below.refl _ _ | refine below_alloc ?_ _ | refine below_drewN ?_ _ | refine Below.drew ?_))) (fun _ => rfl)) hbB ?_; intro v9 w9 hr9 hl9 hb9; have hfin := hend.out _ _ hr9; have hb99 : Below wr.heap.size wr w9 := Below.trans (by (repeat (first | exact hB8.out | exact Below.refl _ _ | refine below_alloc ?_ _ | refine below_drewN ?_ _ | refine Below.drew ?_))) hb9)
            | (refine step_append_off rfl (.tmp 37) (.tmp 39) rfl rfl (off_below hr7.out (by (repeat (first | exact Below.refl _ _ | refine below_alloc ?_ _ | refine below_drewN ?_ _ | refine Below.drew ?_)))) rfl rfl (src1_at (x := x) (by first | exact hjb.out | exact heap_alloc_new w7 _)) hb1 ?_; intro v8 w8 g3 g4; have hl8 := Lib.hid (g4.low hl7.out (Below.size (w := wr) (by (repeat (first | exact hB7.out | exact Below.refl _ _ | refine below_alloc ?_ _ | refine below_drewN ?_ _ | refine Below.drew ?_))))); have hB8 := Lib.hid (g4.below hl7.out (by (repeat (first | exact hB7.out | exact Below.refl _ _ | refine below_alloc ?_ _ | refine below_drewN ?_ _ | refine Below.drew ?_)))); have hr8 := Lib.hid g3; clear g3 g4)
            | (refine step_append_off rfl (.tmp 33) (.tmp 36) rfl rfl (lit_off (by first | exact lt_new _ _ | exact lt_new1 (by exact size_new wr _) | exact Nat.lt_trans (lt_new _ _) (lt_new _ _))) rfl rfl (srcA.out _ _ (by (repeat (first | exact Below.refl _ _ | refine below_alloc ?_ _ | refine below_drewN ?_ _ | refine Below.drew ?_)))) hbA ?_; intro v7 w7 g1 g2; have hk := off_one (wq := wr) (by (repeat (first | exact Below.refl _ _ | refine below_alloc ?_ _ | refine below_drewN ?_ _ | refine Below.drew ?_))) (by first | exact Nat.le_refl _ | exact Nat.le_succ _ | exact Below.size (w := wr) (by (repeat (first | exact Below.refl _ _ | refine below_alloc ?_ _ | refine below_drewN ?_ _ | refine Below.drew ?_)))) g1 g2; have hr7 := Lib.hid hk.1; have hl7 := Lib.hid hk.2.1; have hB7 := Lib.hid hk.2.2.1; have hk3 := Lib.hid hk.2.2.2; clear hk g1 g2; try (first
                | (have hjb : Hid (w7.heap[wr.heap.size + 1]? = some (.cells #[.int .i64 x] 3 (0, 0))) := Lib.hid (hk3.out (wr.heap.size + 1) _ (Nat.succ_ne_self _) (heap_new1 (w := wr) (by exact size_new wr _))))
                | (have hjb : Hid (w7.heap[wr.heap.size]? = some (.cells #[.int .i64 x] 3 (0, 0))) := Lib.hid (hk3.out wr.heap.size _ (Nat.succ_ne_self _).symm (old_new (w := wr) (C := #[.int .i64 x]) (t := 3) (by (repeat (first | exact Below.refl _ _ | refine below_alloc ?_ _ | refine below_drewN ?_ _ | refine Below.drew ?_)))))))))
          all_goals
            go_wp2_with fail
            go_ret
            exact ⟨_, rfl, hfin, hl9, hb99⟩
end Rw
end Go.Proofs.Ytpclacaiabbmjaa
