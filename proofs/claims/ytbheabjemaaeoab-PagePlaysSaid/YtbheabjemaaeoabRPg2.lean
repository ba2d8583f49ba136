/- The document's own Pages: Runs. -/
import Derived.Test.YtbheabjemaaeoabRPg
namespace Go.Proofs.Ytbheabjemaaeoab
open Go.RowKit Go.Lib Fx Ho Gr Go.Sort
set_option linter.unusedVariables false
namespace Pg
variable {W0 w w1 w' W : World} {P X Y B R b n c i j k q K a N p t s D : Nat} {v v1 : Value} {H H' : Home} {F G : List Bool} {d : Array Pr2} {A A' L : List (Nat × Nat)} {r : Nat × Nat}
/-- The row of runs that a call makes. -/
structure Rr (w0 w : World) (F : List Bool) (j : Nat) (v : Value) (L : List (Nat × Nat)) : Prop where
  row : GRow 2 w v L.length (rc L)
  low : Low w0.heap.size (fun k => v.ownBlock = some k)
  bel : Below w0.heap.size w0 w
  rt : Rt F j L
theorem Rr.len (h : Rr W w F j v L) : L.length ≤ j := by
  have h1 := h.rt
  have : ∀ (L : List (Nat × Nat)) (m : Nat), L.Pairwise (fun r s => r.1 + r.2 < s.1) → (∀ r, r ∈ L → m ≤ r.1 ∧ 1 ≤ r.2 ∧ r.1 + r.2 ≤ j) → m ≤ j → L.length + m ≤ j := by
    intro L
    induction L with
    | nil => intro m _ _ h; simpa using h
    | cons x t ih =>
      intro m hp hr hm
      obtain ⟨h1, h2⟩ := List.pairwise_cons.1 hp
      obtain ⟨x1, x2, x3⟩ := hr x (List.mem_cons_self ..)
      have := ih (x.1 + x.2) h2 (fun r hr' => ⟨by have := h1 r hr'; omega, (hr r (List.mem_cons_of_mem _ hr')).2⟩) x3
      rw [List.length_cons]; omega
  have := this L 0 h1.up (fun r hr => ⟨by omega, (h1.ok r hr).2.1, (h1.ok r hr).2.2.1⟩) (Nat.zero_le _)
  omega
/-- The last of the row, where it lies. -/
theorem Rr.end_ {M : List (Nat × Nat)} (h : Rr W w F j v (M ++ [(a, K)])) : ∃ b off cap, v = .slice (some ⟨b, off, none⟩) (M.length + 1) cap ∧ w.cell? ⟨b, off + M.length * 2 + 1, none⟩ = some (.int .i64 K) ∧ w.frozen? ⟨b, off + M.length * 2 + 1, none⟩ = false ∧ (a + K = j → F.getD j false = true → Rr W (w.setCell ⟨b, off + M.length * 2 + 1, none⟩ (.int .i64 ((K : Int) + 1))) F (j + 1) v (M ++ [(a, K + 1)])) := by
  obtain ⟨ao, b, off, cap, rfl, h1, h2, h3, h4⟩ := h.row.cell
  have hl : (M ++ [(a, K)]).length = M.length + 1 := by simp
  obtain ⟨rfl, hb, _⟩ := h3 (by omega)
  obtain ⟨g1, g2⟩ := rc_get (M ++ [(a, K)]) M.length (by omega)
  have hg : (M ++ [(a, K)]).getD M.length (0, 0) = (a, K) := by
    rw [List.getD_eq_getElem?_getD, List.getElem?_append_right (Nat.le_refl _), Nat.sub_self]; rfl
  rw [hg] at g2
  obtain ⟨e1, e2⟩ := h4 _ _ g2
  rw [← Nat.add_assoc] at e1 e2
  refine ⟨b, off, cap, by rw [hl], e1, e2, fun hj hf => ⟨?_, h.low, ?_, rt_bump h.rt hj hf⟩⟩
  · have hs := h.row.set (j := M.length * 2 + 1) (u := .int .i64 ((K : Int) + 1)) (by omega)
    rw [← Nat.add_assoc] at hs
    have hr : (rc (M ++ [(a, K)])).set (M.length * 2 + 1) (.int .i64 ((K : Int) + 1)) = rc (M ++ [(a, K + 1)]) := by
      rw [rc_app, rc_app, ← rc_len, List.set_append_right _ _ (by omega), show (rc M).length + 1 - (rc M).length = 1 by omega]
      rfl
    rw [hr] at hs
    have hl2 : (M ++ [(a, K + 1)]).length = (M ++ [(a, K)]).length := by simp
    rw [hl2]
    exact hs
  · have hl2 := h.low b rfl
    exact h.bel.trans ⟨rfl, rfl, rfl, by simp [World.setCell], fun k hk => Below.heap_setCell _ _ _ _ (show k ≠ (⟨b, off + M.length * 2 + 1, none⟩ : Addr).block by show k ≠ b; omega)⟩
set_option maxRecDepth 100000 in
set_option maxHeartbeats 2000000 in
theorem rruns_any (h : Rp w X Y n F) (h0 : F.getD 0 false = false) (hn : n ≤ 300000) : Calls Try.prog 17 #[.pointer (some ⟨X, 0, none⟩)] w fun e w' => ∃ v L, e = .returned v ∧ Rr w w' F n v L := by
  replace h := Lib.hid h
  go_enter Try.func17, Try.ntmps17
  go_wp2_with fail
  go_loopw [3, 4] (fun u3 u4 wr => ∃ j : Nat, u4 = .int .i64 j ∧ j ≤ n ∧ Hid (∃ L, Rr w wr F j u3 L)) (fun _ y _ => (n - (RowKit.intOf y).toNat))
  case atStart => exact ⟨0, rfl, by omega, Lib.hid ⟨[], grow_nil _ _, fun k hk => (by cases hk), Below.refl _ _, rt_nil F⟩⟩
  case round =>
    obtain ⟨j, rfl, jn, hR⟩ := hrel
    obtain ⟨L, hR⟩ := hR.out
    have hP := h.out.below hR.bel
    have c0 := hP.c0
    have j0 : (0 : Int) ≤ (j : Int) := by omega
    by_cases hj : j < n
    · have j1 : (j : Int) < (n : Int) := by omega
      obtain ⟨c1, _⟩ := hP.at_ hj
      cases hx : F.getD j false with
      | false =>
        rw [hx] at c1
        have hnx : Hid (∃ L, Rr w wr F (j + 1) u3 L) := Lib.hid ⟨L, hR.row, hR.low, hR.bel, rt_skip hR.rt hx⟩
        clear hR hP hx
        go_wp2_with fail
        go_roundw
        case rel => exact ⟨j + 1, by go_num, by omega, hnx⟩
        case measure => simp [RowKit.intOf]; omega
      | true =>
        rw [hx] at c1
        have jp : 1 ≤ j := by
          rcases Nat.eq_zero_or_pos j with q | q
          · rw [q, h0] at hx; cases hx
          · exact q
        have j2 : (0 : Int) < (j : Int) := by omega
        have j3 : ((j : Int) - 1).toNat = j - 1 := by omega
        have j4 : (0 : Int) ≤ (j : Int) - 1 := by omega
        have j5 : (j : Int) - 1 < (n : Int) := by omega
        have z1 : IntKind.i64.wrap ((j : Int) - 1) = (j : Int) - 1 := by rw [IntKind.wrap_i64]; omega
        obtain ⟨c2, _⟩ := hP.at_ (p := j - 1) (by omega)
        cases hy : F.getD (j - 1) false with
        | false =>
          rw [hy] at c2
          have hrow := hR.row
          have hbd : L.length + 1 ≤ 1000000 := by have := hR.len; omega
          have hnx : Hid (∀ v9 w9, GRow 2 w9 v9 (L.length + 1) (rc L ++ [.int .i64 (j : Int), .int .i64 1]) → Wrote (fun k => u3.ownBlock = some k) (wr.alloc (.cells #[.int .i64 (j : Int), .int .i64 1] 34)) (fun k => v9.ownBlock = some k) w9 → ∃ L, Rr w w9 F (j + 1) v9 L) := Lib.hid fun v9 w9 g1 g2 => by
            have hb := below_alloc hR.bel (.cells #[.int .i64 (j : Int), .int .i64 1] 34)
            exact ⟨L ++ [(j, 1)], by rw [rc_app, List.length_append]; exact g1, g2.low hR.low hb.size, g2.below hR.low hb, rt_new hR.rt jp hy hx⟩
          clear hR hP hx hy
          go_wp2_with (at_builtin; refine wpList_append_g rfl (.tmp 44) (.tmp 47) rfl rfl eltA (hrow.below (below_alloc (Below.refl _ _) _)) rfl rfl (src_run (heap_alloc_new _ _)) hbd ?_; intro v9 w9 g1 g2; have hgo := Lib.hid (hnx.out v9 w9 g1 g2); clear g1 g2 hnx hrow hbd)
          go_roundw
          case rel => exact ⟨j + 1, by go_num, by omega, hgo⟩
          case measure => simp [RowKit.intOf]; omega
        | true =>
          rw [hy] at c2
          obtain ⟨M, a, K, rfl, hK⟩ := hR.rt.last jp hy
          obtain ⟨b, off, cap, rfl, e1, e2, hnx⟩ := hR.end_
          have hnx := Lib.hid (hnx hK hx)
          have hMl : M.length ≤ 300000 := by have := hR.len; rw [List.length_append, List.length_singleton] at this; omega
          have hKl : (K : Int) ≤ 300000 := by omega
          have hK0 : (0 : Int) ≤ (K : Int) := by omega
          obtain ⟨m, hm⟩ : ∃ m, M.length = m := ⟨_, rfl⟩
          rw [hm] at e1 e2 hnx hMl
          rw [hm]
          have m1 : (((m + 1 : Nat) : Int) - 1) = (m : Int) := by omega
          have m2 : IntKind.i64.wrap (((m + 1 : Nat) : Int) - 1) = (m : Int) := by rw [IntKind.wrap_i64]; omega
          have m3 : IntKind.i64.wrap ((m : Int) + 1 - 1) = (m : Int) := by rw [IntKind.wrap_i64]; omega
          have m4 : (m : Int) < ((m + 1 : Nat) : Int) := by omega
          have m5 : (m : Int) < (m : Int) + 1 := by omega
          clear hR hP hx hy hm hK
          go_wp2_with fail
          go_roundw
          case rel => exact ⟨j + 1, by go_num, by omega, Lib.hid ⟨_, hnx.out⟩⟩
          case measure => simp [RowKit.intOf]; omega
    · obtain rfl : j = n := by omega
      have j1 : ¬ (j : Int) < (j : Int) := by omega
      clear hP
      go_wp2_with fail
      go_ret
      exact ⟨u3, rfl, L, hR⟩
end Pg
end Go.Proofs.Ytbheabjemaaeoab
