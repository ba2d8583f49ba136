/- What push, shift, New, Len, Get and Put of package ring answer and make. -/
import Derived.Test.YtpclacaiabbmjaaRing
import Derived.Deep.RegionWith
namespace Go.Proofs.Ytpclacaiabbmjaa
open Go.RowKit Go.Lib Fx Ho
set_option linter.unusedVariables false
namespace Ri
variable {p a : Nat} {A : Array Value} {F : Nat → Int} {y : Int} {b : Bool} {L : List Int}

theorem wrote_two {w W : World} {i j : Nat} {u v : Value} (hh : W.heap = ((w.setCell ⟨p, i, none⟩ u).setCell ⟨p, j, none⟩ v).heap) (ho : W.os = w.os) (ht : W.tape = w.tape) (hu : W.output = w.output) : Wrote (at_ p) w (at_ p) W :=
  (wrote_setCell (H := at_ p) (a := ⟨p, i, none⟩) (u := u) rfl rfl rfl rfl rfl).trans (wrote_setCell (H := at_ p) (a := ⟨p, j, none⟩) (u := v) hh ho ht hu rfl)
theorem wrote_draws (w : World) (n : Nat) : Wrote (at_ p) w (at_ p) (w.drewN n) := (Wrote.refl _ _).drewN n

set_option maxRecDepth 100000 in
set_option maxHeartbeats 1000000 in
theorem push_any (g : Int) (hl : L.length < 256) (w : World) (h : RingAt w p A F a y b L) : Calls Try.prog 102 #[.pointer (some ⟨p, 0, none⟩), .int .i64 g] w fun e w' => e = .returned (.tuple #[]) ∧ Wrote (at_ p) w (at_ p) w' ∧ IsRing w' p (nxOf b y) (L ++ [g]) := by
  have ca := at_any L.length (by omega) w h
  have c2 := h.c2
  have hj : (a + L.length) % 256 < 256 := Nat.mod_lt _ (by decide)
  have key : Hid (∀ W1, (∃ n, W1 = w.drewN n) → W1.cell? ⟨p, (a + L.length) % 256, none⟩ = some (.int .i64 (F ((a + L.length) % 256))) ∧ W1.cell? ⟨p, 257, none⟩ = some (.int .i64 L.length) ∧ (∀ i, W1.frozen? ⟨p, i, none⟩ = false) ∧
      Hid (∀ W, W.heap = ((W1.setCell ⟨p, (a + L.length) % 256, none⟩ (.int .i64 g)).setCell ⟨p, 257, none⟩ (.int .i64 (L.length + 1))).heap → W.os = W1.os → W.tape = W1.tape → W.output = W1.output → Wrote (at_ p) w (at_ p) W ∧ IsRing W p (nxOf b y) (L ++ [g]))) := by
    rintro W1 ⟨n, rfl⟩
    have h1 : RingAt (w.drewN n) p A F a y b L := h.of_heap rfl
    exact ⟨h1.c0 hj, h1.c2, fun i => h1.fz i, fun W a1 a2 a3 a4 => ⟨(wrote_draws w n).trans (wrote_two a1 a2 a3 a4), ((h1.pushed hl g).of_heap a1).is_⟩⟩
  clear h
  obtain ⟨j, hje⟩ : ∃ j, (a + L.length) % 256 = j := ⟨_, rfl⟩
  rw [hje] at ca key hj
  clear hje
  generalize F j = fj at *
  generalize L.length = n at *
  have hne : j ≠ 257 := by omega
  go_enter Try.func102, Try.ntmps102
  go_wp2_with (go_at_call 107; ((with_reducible refine ca.mono ?_); rintro e w1 ⟨rfl, hw1⟩; have hk := key.out w1 hw1; obtain ⟨f0, f1, ff, hfin⟩ := hk; have x0 := ff j; have x1 := ff 257; clear ff key hw1 ca c2))
  all_goals go_wp2_with fail
  all_goals go_end0
  all_goals exact ⟨rfl, hfin.out _ rfl rfl rfl rfl⟩
set_option maxRecDepth 100000 in
set_option maxHeartbeats 1000000 in
theorem shift_any (n : Nat) (hn : n ≤ L.length) (w : World) (h : RingAt w p A F a y b L) : Calls Try.prog 103 #[.pointer (some ⟨p, 0, none⟩), .int .i64 n] w
    fun e w' => ∃ v', e = .returned v' ∧ Wrote (at_ p) w (at_ p) w' ∧ IsRing w' p (nxOf b y) (L.drop n) ∧ w'.ownsRow w.heap.size 3 1 v' n (cells (L.take n)) := by
  obtain ⟨i0, hi, hz0, hz1, hz2⟩ := info_parts infoI
  have hs := h.small
  have ha := h.a1
  have hp := block_lt h.head
  have hring : Hid (∀ W, Below w.heap.size w W → RingAt W p A F a y b L) := fun W hb => h.below hb
  have hn256 : n ≤ 256 := by omega
  have helem : Hid (∀ k, k < n → ∀ W, Below w.heap.size w W → Calls Try.prog 107 #[.pointer (some ⟨p, 0, none⟩), .int .i64 k] W fun e w' => e = .returned (.pointer (some ⟨p, (a + k) % 256, none⟩)) ∧ Below w.heap.size w w' ∧ w'.cell? ⟨p, (a + k) % 256, none⟩ = some (.int .i64 (L.getD k 0)) ∧ (∀ (v : Value) {m : Nat} {xs : List Value}, W.ownsRow w.heap.size 3 1 v m xs → w'.ownsRow w.heap.size 3 1 v m xs)) := fun k hk W hb =>
    (at_any k (by omega) W (hring.out W hb)).mono fun e w' ⟨he, m, hm⟩ => ⟨he, by rw [hm]; exact below_drewN hb m, by rw [hm]; exact ((hring.out W hb).of_heap (w' := W.drewN m) rfl).elem (by omega), fun v k xs ho => by rw [hm]; exact ho⟩
  have htake : Hid (∀ k, k < n → L.take (k + 1) = L.take k ++ [L.getD k 0]) := fun k hk => by
    rw [List.take_succ_eq_append_getElem (by omega), List.getD_eq_getElem?_getD, List.getElem?_eq_getElem (by omega)]; rfl
  have hlen : Hid (∀ k, k ≤ n → (L.take k).length = k) := fun k hk => by rw [List.length_take]; omega
  have hend : Hid (∀ W1, Below w.heap.size w W1 → W1.cell? ⟨p, 256, none⟩ = some (.int .i64 a) ∧ W1.cell? ⟨p, 257, none⟩ = some (.int .i64 L.length) ∧ W1.frozen? ⟨p, 256, none⟩ = false ∧ W1.frozen? ⟨p, 257, none⟩ = false ∧
      Hid (∀ W, W.heap = ((W1.setCell ⟨p, 256, none⟩ (.int .i64 ((a + n) % 256 : Nat))).setCell ⟨p, 257, none⟩ (.int .i64 ((L.length - n : Nat) : Int))).heap → W.os = W1.os → W.tape = W1.tape → W.output = W1.output → ∀ v' : Value, W1.ownsRow w.heap.size 3 1 v' n (cells (L.take n)) →
        Wrote (at_ p) w (at_ p) W ∧ IsRing W p (nxOf b y) (L.drop n) ∧ W.ownsRow w.heap.size 3 1 v' n (cells (L.take n)))) := fun W1 hb => by
    have h1 := hring.out W1 hb
    refine ⟨h1.c1, h1.c2, h1.fz _, h1.fz _, fun W a1 a2 a3 a4 v' ho => ?_⟩
    have hw := wrote_two (p := p) a1 a2 a3 a4
    refine ⟨(Wrote.of_below hb).trans hw, ((h1.shifted hn).of_heap a1).is_, ho.kept (row := some p) ⟨hw.os, hw.tape, hw.output, hw.size, fun k hk hne => hw.block k hk (fun e => hne (by rw [show k = p from e]))⟩ (Or.inr fun e => by have := (ho.lt p e).1; omega)⟩
  have hj2 : ((a : Int) + (n : Int)) % 256 = (((a + n) % 256 : Nat) : Int) := by omega
  have hl2 : (L.length : Int) - (n : Int) = ((L.length - n : Nat) : Int) := by omega
  clear h
  generalize ((a + n) % 256 : Nat) = j at *
  generalize (L.length - n : Nat) = r at *
  generalize L.length = l at *
  go_enter Try.func103, Try.ntmps103
  go_wp2_with (refine wpList_make_own _ rfl _ _ 41 rfl w.heap.size 3 i0 (.int .i64 0) 1 Try.underlying41 hi hz0 hz1 .i64 .i64 _ (n + 1) rfl rfl (by first | rfl | omega) (by rw [hz2]; omega) (by unfold maxLen; omega) (Nat.le_refl _) ?_; intro w1 hown1 hgrow1; have hb1 : Below w.heap.size w w1 := (Below.refl _ _).grown hgrow1 (Nat.le_refl _) (fun k hk => by cases hk); clear hgrow1)
  go_loopw [5, 11] (fun u i wr => ∃ k : Nat, i = .int .i64 k ∧ k ≤ n ∧ Hid (wr.ownsRow w.heap.size 3 1 u k (cells (L.take k))) ∧ Below w.heap.size w wr) (fun _ i _ => (n - (intOf i).toNat))
  case atStart => exact ⟨0, rfl, by omega, hown1, hb1⟩
  case round =>
    obtain ⟨k, rfl, k1, hown, hb⟩ := hrel
    clear hown1 hb1
    by_cases hk : k < n
    · have i2 : (k : Int) < (n : Int) := by omega
      have ca := helem.out k hk wr hb
      have ht := htake.out k hk
      go_wp2_with fail
      with_reducible refine Calls.mono ca ?_
      rintro e w2 ⟨rfl, hb2, hc2, how2⟩
      have hbs := hb2.size
      have hal : Hid (∀ (v' : Value) (W : World), W.ownsRow w.heap.size 3 1 v' (k + 1) (cells (L.take k) ++ [.int .i64 (L.getD k 0)]) → W.ownsRow w.heap.size 3 1 v' (k + 1) (cells (L.take (k + 1)))) := fun v' W ho => by
        rw [ht, cells_app]; exact ho
      have hkeep : Hid (∀ (W : World) (u : Value), w2.ownsRow w.heap.size 3 1 u k (cells (L.take k)) → (w2.alloc (.cells #[.int .i64 (L.getD k 0)] 3)).grownBy W u.ownBlock → Below w.heap.size w W) := fun W u ho hg =>
        (below_alloc hb2 _).trans (Below.grown (Below.refl _ _) hg (by show _ ≤ (w2.heap.push _).size; rw [Array.size_push]; omega) (fun r hr => (ho.lt r hr).1))
      have hown2 := Lib.hid (how2 _ hown.out)
      clear ca ht hown how2
      generalize cells (L.take k) = CA at *
      generalize L.getD k 0 = x at *
      go_wp2_with (at_builtin; refine wpList_append_own _ rfl _ _ 41 rfl w.heap.size 3 i0 (.int .i64 0) 1 8 Try.underlying41 hi hz0 hz1 hz2 rfl (by decide) _ k CA rfl (hown2.out.alloc _) ⟨w2.heap.size, 0, none⟩ 1 1 [.int .i64 x] rfl rfl (news_one w2 (.int .i64 x) 3) (fun x hx => by simp at hx; subst hx; rfl) (by unfold maxLen; omega) (by omega) (by show _ ≤ (w2.heap.push _).size; rw [Array.size_push]; omega) ?_; intro v' w3 hown3 hgrow hnil; clear hnil; have hb3 := hkeep.out _ _ hown2.out hgrow; clear hgrow; have hown4 := Lib.hid (hal.out _ _ hown3); clear hown3)
      go_roundw
      case rel => exact ⟨k + 1, by go_num, by omega, hown4, hb3⟩
      case measure => simp [intOf]; omega
    · obtain rfl : k = n := by omega
      have he := hend.out wr hb
      obtain ⟨f1, f2, f3, f4, hfin⟩ := he
      clear hend helem
      go_wp2_with fail
      go_ret
      exact ⟨_, rfl, hfin.out _ rfl rfl rfl rfl _ hown.out⟩

def ring0 : Array Value := Array.replicate 256 (.int .i64 0) ++ #[.int .i64 0, .int .i64 0, .int .i64 0, .bool false]
theorem built0 : Try.prog.built 127 [] = some ring0 := by kernel_rfl
theorem ring0_at (j : Nat) (h : j < 256) : ring0[j]? = some (.int .i64 0) := by
  unfold ring0
  rw [Array.getElem?_append_left (by simpa using h), Array.getElem?_replicate, if_pos h]
set_option maxRecDepth 100000 in
theorem new_any (w : World) : Calls Try.prog 58 #[] w fun e w' => e = .returned (.pointer (some ⟨w.heap.size, 0, none⟩)) ∧ Below w.heap.size w w' ∧ IsRing w' w.heap.size none [] := by
  have hend : Hid (IsRing (w.alloc (.cells ring0 127)) w.heap.size none []) := by
    refine ⟨ring0, fun _ => 0, 0, 0, false, ⟨heap_alloc_new _ _, fun j hj => ring0_at j hj, (show ring0[256]? = some (.int .i64 0) by kernel_rfl), (show ring0[257]? = some (.int .i64 0) by kernel_rfl), (show ring0[258]? = some (.int .i64 0) by kernel_rfl), (show ring0[259]? = some (.bool false) by kernel_rfl), by omega, by simp, by simp⟩, rfl⟩
  have hb := Lib.hid (below_alloc (Below.refl w.heap.size w) (.cells ring0 127))
  have h0 := built0
  generalize ring0 = R0 at *
  go_enter Try.func58, Try.ntmps58
  go_wp2_with (refine wpList_built rfl 127 #[] rfl R0 (by simpa using h0) ?_)
  go_ret
  exact ⟨rfl, hb.out, hend.out⟩
def len1 (nx : Option Int) (L : List Int) : Nat := (match nx with | some _ => 1 | none => 0) + L.length
set_option maxRecDepth 100000 in
theorem len_nil (w : World) : Calls Try.prog 70 #[.pointer none] w (Still (.int .i64 0) w) := by
  go_enter Try.func70, Try.ntmps70
  go_wp2_with fail
  go_ret
  exact ⟨rfl, rfl⟩
set_option maxRecDepth 100000 in
theorem len_any {nx : Option Int} (w : World) (h : IsRing w p nx L) : Calls Try.prog 70 #[.pointer (some ⟨p, 0, none⟩)] w (Still (.int .i64 (len1 nx L)) w) := by
  obtain ⟨A, F, a, y, b, h, rfl⟩ := h
  have c2 := h.c2
  have c4 := h.c4
  have hs := h.small
  clear h
  cases b with
  | true =>
    rw [show ((len1 (nxOf true y) L : Nat) : Int) = (L.length : Int) + 1 by show ((1 + L.length : Nat) : Int) = _; omega]
    generalize L.length = n at *
    go_enter Try.func70, Try.ntmps70
    go_wp2_with fail
    go_ret
    exact ⟨rfl, rfl⟩
  | false =>
    rw [show ((len1 (nxOf false y) L : Nat) : Int) = (L.length : Int) by show ((0 + L.length : Nat) : Int) = _; omega]
    generalize L.length = n at *
    go_enter Try.func70, Try.ntmps70
    go_wp2_with fail
    go_ret
    exact ⟨rfl, rfl⟩
set_option maxRecDepth 100000 in
theorem get_nil (w : World) : Calls Try.prog 71 #[.pointer none] w (Still (.tuple #[.int .i64 0, .bool false]) w) := by
  go_enter Try.func71, Try.ntmps71
  go_wp2_with fail
  go_ret2
  exact ⟨rfl, rfl⟩
set_option maxRecDepth 100000 in
theorem get_none (w : World) (h : IsRing w p none []) : Calls Try.prog 71 #[.pointer (some ⟨p, 0, none⟩)] w (Still (.tuple #[.int .i64 0, .bool false]) w) := by
  obtain ⟨A, F, a, y, b, h, hb⟩ := h
  cases b with
  | true => cases hb
  | false =>
    have c2 := h.c2
    have c4 := h.c4
    clear h
    go_enter Try.func71, Try.ntmps71
    go_wp2_with fail
    go_ret2
    exact ⟨rfl, rfl⟩
set_option maxRecDepth 100000 in
theorem get_next {g : Int} (w : World) (h : IsRing w p (some g) L) : Calls Try.prog 71 #[.pointer (some ⟨p, 0, none⟩)] w (Turns (.tuple #[.int .i64 g, .bool true]) w p none L) := by
  obtain ⟨A, F, a, y, b, h, hb⟩ := h
  cases b with
  | false => cases hb
  | true =>
    obtain rfl : g = y := Option.some.inj hb
    have c3 := h.c3
    have c4 := h.c4
    have f4 := h.fz 259
    have hfin : Hid (∀ W, W.heap = (w.setCell ⟨p, 259, none⟩ (.bool false)).heap → W.os = w.os → W.tape = w.tape → W.output = w.output → Wrote (at_ p) w (at_ p) W ∧ IsRing W p none L) := fun W a1 a2 a3 a4 =>
      ⟨wrote_setCell (H := at_ p) a1 a2 a3 a4 rfl, (h.unnexted.of_heap a1).is_⟩
    clear h hb
    unfold Turns
    go_enter Try.func71, Try.ntmps71
    go_wp2_with fail
    go_ret2
    exact ⟨rfl, hfin.out _ rfl rfl rfl rfl⟩
set_option maxRecDepth 100000 in
theorem get_row {g : Int} (w : World) (h : IsRing w p none (g :: L)) : Calls Try.prog 71 #[.pointer (some ⟨p, 0, none⟩)] w (Turns (.tuple #[.int .i64 g, .bool true]) w p none L) := by
  obtain ⟨A, F, a, y, b, h, hb⟩ := h
  cases b with
  | true => cases hb
  | false =>
    have c2 := h.c2
    have c4 := h.c4
    have hs := h.small
    have cs := shift_any 1 (by simp) w h
    have hl : (((g :: L).length : Nat) : Int) = (L.length : Int) + 1 := by rw [List.length_cons]; omega
    have hl2 : L.length + 1 ≤ 256 := by simpa using hs
    rw [hl] at c2
    have hne : ((L.length : Int) + 1 == 0) = false := by rw [beq_eq_false_iff_ne]; omega
    clear h hb hl hs
    unfold Turns
    generalize L.length = n at *
    go_enter Try.func71, Try.ntmps71
    go_wp2_with fail
    with_reducible refine Calls.mono cs ?_
    rintro e w1 ⟨v1, rfl, hw1, hr1, ho1⟩
    obtain ⟨q, cap, rfl, _, _, k3, _⟩ := own_at ho1 (show 0 < 1 by omega)
    have k3 : w1.cell? ⟨q, 0, none⟩ = some (.int .i64 g) := k3
    have hfin : Hid (Wrote (at_ p) w (at_ p) w1 ∧ IsRing w1 p none L) := ⟨hw1, hr1⟩
    clear hw1 hr1 ho1 cs c2 c4
    go_wp2_with fail
    go_ret2
    exact ⟨rfl, hfin.out⟩
end Ri
end Go.Proofs.Ytpclacaiabbmjaa
