/- What cut and Del of package ring answer and make. -/
import Derived.Test.YtclldajbibhcbaaRingMore
namespace Go.Proofs.Ytclldajbibhcbaa
open Go.RowKit Go.Lib Fx Ho
set_option linter.unusedVariables false
namespace Ri
variable {p a : Nat} {A : Array Value} {F : Nat → Int} {y : Int} {b : Bool} {L : List Int} {nx : Option Int}

/-- The row's place i written. -/
theorem RingAt.placed {w : World} (h : RingAt w p A F a y b L) {i : Nat} (hi : i < L.length) (g : Int) : RingAt (w.setCell ⟨p, (a + i) % 256, none⟩ (.int .i64 g)) p
    (A.setIfInBounds ((a + i) % 256) (.int .i64 g)) (fun k => if k = (a + i) % 256 then g else F k) a y b (L.set i g) := by
  have hj : (a + i) % 256 < 256 := Nat.mod_lt _ (by decide)
  have ha := h.a1
  have hs := h.small
  obtain ⟨j, hje⟩ : ∃ j, (a + i) % 256 = j := ⟨_, rfl⟩
  rw [hje] at hj ⊢
  refine ⟨heap_setCell_same _ p _ _ _ _ h.head, fun k hk => ?_, ?_, ?_, ?_, ?_, h.a1, ?_, fun r hr => ?_⟩
  · by_cases e : k = j
    · rw [if_pos e, e]; exact get_same (h.row j hj)
    · rw [if_neg e]; exact get_set (h.row k hk) (fun e2 => e e2.symm)
  · exact get_set h.k1 (by omega)
  · rw [List.length_set]; exact get_set h.k2 (by omega)
  · exact get_set h.k3 (by omega)
  · exact get_set h.k4 (by omega)
  · rw [List.length_set]; exact hs
  · rw [List.length_set] at hr
    show (if (a + r) % 256 = j then g else F _) = _
    by_cases e : r = i
    · subst e
      rw [if_pos hje, List.getD_eq_getElem?_getD, List.getElem?_set_self hr]; rfl
    · rw [if_neg (by omega), h.elems r hr, List.getD_eq_getElem?_getD, List.getD_eq_getElem?_getD, List.getElem?_set_ne (fun e2 => e e2.symm)]
/-- The last one gone. -/
theorem RingAt.popped {w : World} (h : RingAt w p A F a y b L) {n : Nat} (hn : L.length = n + 1) : RingAt (w.setCell ⟨p, 257, none⟩ (.int .i64 (n : Nat))) p (A.setIfInBounds 257 (.int .i64 (n : Nat))) F a y b L.dropLast := by
  have hs := h.small
  refine ⟨heap_setCell_same _ p _ _ _ _ h.head, fun k hk => ?_, ?_, ?_, ?_, ?_, h.a1, ?_, fun r hr => ?_⟩
  · exact get_set (h.row k hk) (by omega)
  · exact get_set h.k1 (by omega)
  · rw [List.length_dropLast, hn]; exact get_same h.k2
  · exact get_set h.k3 (by omega)
  · exact get_set h.k4 (by omega)
  · rw [List.length_dropLast]; omega
  · rw [List.length_dropLast] at hr
    rw [h.elems r (by omega), List.getD_eq_getElem?_getD, List.getD_eq_getElem?_getD, List.getElem?_dropLast, if_pos hr]
/-- L once the d places from i on hold what was one place behind them. -/
def cutL (L : List Int) (i : Nat) : Nat → List Int
  | 0 => L
  | d + 1 => (cutL L i d).set (i + d) (L.getD (i + d + 1) 0)
theorem cut_len (L : List Int) (i : Nat) : ∀ d, (cutL L i d).length = L.length
  | 0 => rfl
  | d + 1 => by show ((cutL L i d).set _ _).length = _; rw [List.length_set, cut_len L i d]
theorem cut_get (L : List Int) (i : Nat) : ∀ d, i + d ≤ L.length → ∀ j, (cutL L i d).getD j 0 = if i ≤ j ∧ j < i + d then L.getD (j + 1) 0 else L.getD j 0
  | 0, _, j => by rw [if_neg (by omega)]; rfl
  | d + 1, h, j => by
    show ((cutL L i d).set (i + d) (L.getD (i + d + 1) 0)).getD j 0 = _
    have ih := cut_get L i d (by omega) j
    by_cases e : j = i + d
    · subst e
      rw [if_pos (by omega), List.getD_eq_getElem?_getD, List.getElem?_set_self (by rw [cut_len]; omega)]; rfl
    · rw [List.getD_eq_getElem?_getD, List.getElem?_set_ne (fun e2 => e e2.symm), ← List.getD_eq_getElem?_getD, ih]
      by_cases h1 : i ≤ j ∧ j < i + d
      · rw [if_pos h1, if_pos (by omega)]
      · rw [if_neg h1, if_neg (by omega)]
theorem cut_end (L : List Int) {i n : Nat} (hn : L.length = n + 1) (hi : i ≤ n) : (cutL L i (n - i)).dropLast = L.eraseIdx i := by
  apply List.ext_getElem?
  intro j
  have hg := cut_get L i (n - i) (by omega) j
  have hl := cut_len L i (n - i)
  rw [List.getElem?_dropLast, List.getElem?_eraseIdx, hl, hn]
  by_cases hj : j < n
  · rw [if_pos (by omega)]
    rw [List.getD_eq_getElem?_getD, List.getElem?_eq_getElem (by omega)] at hg
    rw [List.getElem?_eq_getElem (by omega)]
    by_cases h1 : j < i
    · rw [if_pos h1]
      rw [if_neg (by omega), List.getD_eq_getElem?_getD, List.getElem?_eq_getElem (by omega)] at hg
      rw [List.getElem?_eq_getElem (by omega)]
      simpa using hg
    · rw [if_neg h1]
      rw [if_pos (by omega), List.getD_eq_getElem?_getD, List.getElem?_eq_getElem (by omega)] at hg
      rw [List.getElem?_eq_getElem (by omega)]
      simpa using hg
  · rw [if_neg (by omega)]
    by_cases h1 : j < i
    · omega
    · rw [if_neg h1, List.getElem?_eq_none (by omega)]

/-- A ring that is known whole, since the world w0. -/
structure Rw (w0 w : World) (p : Nat) (b : Bool) (y : Int) (L : List Int) : Prop where
  ex : ∃ A F a, RingAt w p A F a y b L
  wr : Wrote (at_ p) w0 (at_ p) w
set_option maxRecDepth 100000 in
set_option maxHeartbeats 2000000 in
theorem cut_any (i n : Nat) (hn : L.length = n + 1) (hi : i ≤ n) (w : World) (h : RingAt w p A F a y b L) : Calls Try.prog 104 #[.pointer (some ⟨p, 0, none⟩), .int .i64 i] w fun e w' => e = .returned (.tuple #[]) ∧ Wrote (at_ p) w (at_ p) w' ∧ IsRing w' p (nxOf b y) (L.eraseIdx i) := by
  have hs := h.small
  have hsz := hs
  rw [hn] at hsz
  have hst : Hid (Wrote (at_ p) w (at_ p) w ∧ ∃ A F, RingAt w p A F a y b (cutL L i 0)) := ⟨Wrote.refl _ _, A, F, h⟩
  have hcount : Hid (∀ W k, (∃ A F, RingAt W p A F a y b (cutL L i k)) → W.cell? ⟨p, 257, none⟩ = some (.int .i64 ((n : Int) + 1)) ∧ W.frozen? ⟨p, 257, none⟩ = false) := by
    rintro W k ⟨A, F, h⟩
    have := h.c2
    rw [cut_len, hn] at this
    exact ⟨this, h.fz _⟩
  have hcat : Hid (∀ W k, (∃ A F, RingAt W p A F a y b (cutL L i k)) → ∀ j : Nat, j ≤ 256 → Calls Try.prog 103 #[.pointer (some ⟨p, 0, none⟩), .int .i64 j] W (Ans (.pointer (some ⟨p, (a + j) % 256, none⟩)) W)) := by
    rintro W k ⟨A, F, h⟩ j hj
    exact at_any j hj W h
  have hfin : Hid (∀ W W2, (Wrote (at_ p) w (at_ p) W ∧ ∃ A F, RingAt W p A F a y b (cutL L i (n - i))) → W2.heap = (W.setCell ⟨p, 257, none⟩ (.int .i64 (n : Nat))).heap → W2.os = W.os → W2.tape = W.tape → W2.output = W.output → Wrote (at_ p) w (at_ p) W2 ∧ IsRing W2 p (nxOf b y) (L.eraseIdx i)) := by
    rintro W W2 ⟨hw, A, F, h⟩ a1 a2 a3 a4
    refine ⟨hw.trans (wrote_setCell (H := at_ p) a1 a2 a3 a4 rfl), ?_⟩
    rw [← cut_end L hn hi]
    exact ((h.popped (by rw [cut_len]; exact hn)).of_heap a1).is_
  have hstep : Hid (∀ W k, i + k < n → (Wrote (at_ p) w (at_ p) W ∧ ∃ A F, RingAt W p A F a y b (cutL L i k)) → ∀ m, (∃ x, (W.drewN m).cell? ⟨p, (a + (i + k)) % 256, none⟩ = some (.int .i64 x)) ∧ (W.drewN m).frozen? ⟨p, (a + (i + k)) % 256, none⟩ = false ∧ (W.drewN m).cell? ⟨p, (a + (i + k + 1)) % 256, none⟩ = some (.int .i64 (L.getD (i + k + 1) 0)) ∧
      Hid (∀ W2, W2.heap = ((W.drewN m).setCell ⟨p, (a + (i + k)) % 256, none⟩ (.int .i64 (L.getD (i + k + 1) 0))).heap → W2.os = W.os → W2.tape = W.tape → W2.output = W.output → Hid (Wrote (at_ p) w (at_ p) W2 ∧ ∃ A F, RingAt W2 p A F a y b (cutL L i (k + 1))))) := by
    rintro W k hk ⟨hw, A, F, h⟩ m
    have h1 : RingAt (W.drewN m) p A F a y b (cutL L i k) := h.of_heap rfl
    have hl := cut_len L i k
    have e1 := h1.elem (i := i + k) (by omega)
    have e2 := h1.elem (i := i + k + 1) (by omega)
    rw [cut_get L i k (by omega), if_neg (by omega)] at e2
    refine ⟨⟨_, e1⟩, h1.fz _, e2, fun W2 a1 a2 a3 a4 => ⟨?_, ?_⟩⟩
    · exact (hw.drewN m).trans (wrote_setCell (H := at_ p) (a := ⟨p, (a + (i + k)) % 256, none⟩) (u := .int .i64 (L.getD (i + k + 1) 0)) a1 a2 a3 a4 rfl)
    · exact ⟨_, _, (h1.placed (i := i + k) (by omega) (L.getD (i + k + 1) 0)).of_heap a1⟩
  clear h hs
  go_enter Try.func104, Try.ntmps104
  go_wp2_with fail
  go_loopw [1] (fun u wr => ∃ k t : Nat, i + k = t ∧ u = .int .i64 t ∧ t ≤ n ∧ Hid (Wrote (at_ p) w (at_ p) wr ∧ ∃ A F, RingAt wr p A F a y b (cutL L i k))) (fun u _ => (n - (intOf u).toNat))
  case atStart => exact ⟨0, i, rfl, rfl, hi, hst⟩
  case round =>
    obtain ⟨k, t, ht, rfl, k1, hS⟩ := hrel
    clear hst
    obtain ⟨c1, c2⟩ := hcount.out wr k hS.out.2
    by_cases hk : t < n
    · have c3 := hcat.out wr k hS.out.2 t (by omega)
      have c4 : Hid (∀ m, Calls Try.prog 103 #[.pointer (some ⟨p, 0, none⟩), .int .i64 ((t : Int) + 1)] (wr.drewN m) (Ans (.pointer (some ⟨p, (a + (t + 1)) % 256, none⟩)) (wr.drewN m))) := fun m => by
        obtain ⟨A, F, h⟩ := hS.out.2
        have := at_any (t + 1) (by omega) _ (h.of_heap (w' := wr.drewN m) rfl)
        rwa [show ((t + 1 : Nat) : Int) = (t : Int) + 1 by omega] at this
      have h1 := hstep.out wr k (by omega) hS.out
      rw [ht] at h1
      replace h1 := Lib.hid h1
      have hx : Hid (∀ m, Wrote (at_ p) wr (at_ p) (wr.drewN m)) := fun m => wrote_draws wr m
      clear hcount hcat hstep hfin hS
      have hk2 : (t : Int) < (n : Int) := by omega
      obtain ⟨j1, hj1⟩ : ∃ j1, (a + t) % 256 = j1 := ⟨_, rfl⟩
      obtain ⟨j2, hj2⟩ : ∃ j2, (a + (t + 1)) % 256 = j2 := ⟨_, rfl⟩
      rw [hj1] at c3 h1
      rw [hj2] at c4 h1
      generalize L.getD (t + 1) 0 = g at *
      clear hj1 hj2
      replace ht := Lib.hid ht
      go_wp2_with fail
      with_reducible refine Calls.mono c3 ?_
      rintro e w2 ⟨rfl, m1, rfl⟩
      clear c3
      go_wp2_with fail
      with_reducible refine Calls.mono (c4.out _) ?_
      rintro e w3 ⟨rfl, m2, rfl⟩
      rw [World.drewN_drewN]
      obtain ⟨⟨x, x1⟩, x2, x3, hnx⟩ := h1.out (m1 + m2)
      clear c4 h1 hx
      go_wp2_with fail
      go_roundw
      case rel => exact ⟨k + 1, t + 1, by have := ht.out; omega, by go_num, by omega, hnx.out _ rfl rfl rfl rfl⟩
      case measure => simp [intOf]; omega
    · obtain rfl : t = n := by omega
      obtain rfl : k = t - i := by omega
      have hf := hfin.out wr
      replace hf := Lib.hid hf
      have c1' : wr.cell? ⟨p, 257, none⟩ = some (.int .i64 ((t : Int) + 1)) := c1
      go_wp2_with fail
      go_end0
      exact ⟨rfl, hf.out _ hS.out rfl rfl rfl rfl⟩
set_option maxRecDepth 100000 in
theorem del_nil (g : Int) (w : World) : Calls Try.prog 23 #[.pointer none, .int .i64 g] w (Still (.bool false) w) := by
  go_enter Try.func23, Try.ntmps23
  go_wp2_with fail
  go_ret
  exact ⟨rfl, rfl⟩
set_option maxRecDepth 100000 in
theorem del_next (g : Int) (w : World) (h : IsRing w p (some g) L) : Calls Try.prog 23 #[.pointer (some ⟨p, 0, none⟩), .int .i64 g] w (Turns (.bool true) w p none L) := by
  obtain ⟨A, F, a, y, b, h, hb⟩ := h
  cases b with
  | false => cases hb
  | true =>
    obtain rfl : g = y := Option.some.inj hb
    have c3 := h.c3
    have c4 := h.c4
    have f4 := h.fz 259
    have hfin : Hid (∀ W, W.heap = (w.setCell ⟨p, 259, none⟩ (.bool false)).heap → W.os = w.os → W.tape = w.tape → W.output = w.output → Wrote (at_ p) w (at_ p) W ∧ IsRing W p none L) := fun W a1 a2 a3 a4 =>
      ⟨wrote_setCell (H := at_ p) a1 a2 a3 a4 rfl, (h.unnexted.of_heap a1).is_⟩
    clear h hb
    unfold Turns
    go_enter Try.func23, Try.ntmps23
    go_wp2_with fail
    go_ret
    exact ⟨rfl, hfin.out _ rfl rfl rfl rfl⟩
set_option maxRecDepth 100000 in
set_option maxHeartbeats 1000000 in
theorem del_not (g : Int) (hx : nx ≠ some g) (hno : ∀ j, j < L.length → L.getD j 0 ≠ g) (w : World) (h : IsRing w p nx L) : Calls Try.prog 23 #[.pointer (some ⟨p, 0, none⟩), .int .i64 g] w (Ans (.bool false) w) := by
  obtain ⟨A, F, a, y, b, h, rfl⟩ := h
  have hs := h.small
  obtain ⟨n, hn⟩ : ∃ n, L.length = n := ⟨_, rfl⟩
  have c2 := h.c2
  have c3 := h.c3
  have c4 := h.c4
  rw [hn] at c2 hs
  have hel : Hid (∀ k, k < n → ∀ c, Calls Try.prog 103 #[.pointer (some ⟨p, 0, none⟩), .int .i64 k] (w.drewN c) (Ans (.pointer (some ⟨p, (a + k) % 256, none⟩)) (w.drewN c)) ∧ ∀ m, ((w.drewN c).drewN m).cell? ⟨p, (a + k) % 256, none⟩ = some (.int .i64 (L.getD k 0))) := fun k hk c =>
    ⟨at_any k (by omega) _ (h.of_heap rfl), fun m => (h.of_heap (w' := (w.drewN c).drewN m) rfl).elem (by omega)⟩
  rw [hn] at hno
  replace hno := Lib.hid hno
  clear h hn
  have hyb : b = true → (y == g) = false := fun hb => by rw [beq_eq_false_iff_ne]; intro e; exact hx (by rw [hb, e]; rfl)
  cases b with
  | true =>
    have hy := hyb rfl
    clear hyb hx
    go_enter Try.func23, Try.ntmps23
    go_wp2_with fail
    go_loopw [27] (fun u wr => ∃ k c : Nat, u = .int .i64 k ∧ k ≤ n ∧ wr = w.drewN c) (fun u _ => (n - (intOf u).toNat))
    case atStart => exact ⟨0, 0, rfl, by omega, rfl⟩
    case round =>
      obtain ⟨k, c, rfl, k1, rfl⟩ := hrel
      by_cases hk : k < n
      · skip
        obtain ⟨e1, e2⟩ := hel.out k (by omega) c
        have e3 : (L.getD k 0 == g) = false := by rw [beq_eq_false_iff_ne]; exact hno.out k (by omega)
        have i2 : (k : Int) < (n : Int) := by omega
        replace e2 := Lib.hid e2
        generalize L.getD k 0 = x at *
        go_wp2_with fail
        with_reducible refine Calls.mono e1 ?_
        rintro e w2 ⟨rfl, m1, rfl⟩
        rw [World.drewN_drewN]
        have e4 := e2.out m1
        rw [World.drewN_drewN] at e4
        clear e1 e2
        go_wp2_with fail
        go_roundw
        case rel => exact ⟨k + 1, c + m1, by go_num, by omega, by first | rfl | trivial⟩
        case measure => simp [intOf]; omega
      · obtain rfl : k = n := by omega
        go_wp2_with fail
        go_ret
        exact ⟨rfl, _, rfl⟩
  | false =>
    clear hyb hx
    go_enter Try.func23, Try.ntmps23
    go_wp2_with fail
    go_loopw [27] (fun u wr => ∃ k c : Nat, u = .int .i64 k ∧ k ≤ n ∧ wr = w.drewN c) (fun u _ => (n - (intOf u).toNat))
    case atStart => exact ⟨0, 0, rfl, by omega, rfl⟩
    case round =>
      obtain ⟨k, c, rfl, k1, rfl⟩ := hrel
      by_cases hk : k < n
      · skip
        obtain ⟨e1, e2⟩ := hel.out k (by omega) c
        have e3 : (L.getD k 0 == g) = false := by rw [beq_eq_false_iff_ne]; exact hno.out k (by omega)
        have i2 : (k : Int) < (n : Int) := by omega
        replace e2 := Lib.hid e2
        generalize L.getD k 0 = x at *
        go_wp2_with fail
        with_reducible refine Calls.mono e1 ?_
        rintro e w2 ⟨rfl, m1, rfl⟩
        rw [World.drewN_drewN]
        have e4 := e2.out m1
        rw [World.drewN_drewN] at e4
        clear e1 e2
        go_wp2_with fail
        go_roundw
        case rel => exact ⟨k + 1, c + m1, by go_num, by omega, by first | rfl | trivial⟩
        case measure => simp [intOf]; omega
      · obtain rfl : k = n := by omega
        go_wp2_with fail
        go_ret
        exact ⟨rfl, _, rfl⟩
set_option maxRecDepth 100000 in
set_option maxHeartbeats 1000000 in
theorem del_row (g : Int) (i : Nat) (hx : nx ≠ some g) (hi : i < L.length) (hgi : L.getD i 0 = g) (hno : ∀ j, j < i → L.getD j 0 ≠ g) (w : World) (h : IsRing w p nx L) : Calls Try.prog 23 #[.pointer (some ⟨p, 0, none⟩), .int .i64 g] w (Turns (.bool true) w p nx (L.eraseIdx i)) := by
  obtain ⟨A, F, a, y, b, h, rfl⟩ := h
  have hs := h.small
  obtain ⟨n, hn⟩ : ∃ n, L.length = n := ⟨_, rfl⟩
  have c2 := h.c2
  have c3 := h.c3
  have c4 := h.c4
  rw [hn] at c2 hs
  have hel : Hid (∀ k, k < n → ∀ c, Calls Try.prog 103 #[.pointer (some ⟨p, 0, none⟩), .int .i64 k] (w.drewN c) (Ans (.pointer (some ⟨p, (a + k) % 256, none⟩)) (w.drewN c)) ∧ ∀ m, ((w.drewN c).drewN m).cell? ⟨p, (a + k) % 256, none⟩ = some (.int .i64 (L.getD k 0))) := fun k hk c =>
    ⟨at_any k (by omega) _ (h.of_heap rfl), fun m => (h.of_heap (w' := (w.drewN c).drewN m) rfl).elem (by omega)⟩
  rw [hn] at hi
  have hcut : Hid (∀ c, Calls Try.prog 104 #[.pointer (some ⟨p, 0, none⟩), .int .i64 i] (w.drewN c) fun e w' => e = .returned (.tuple #[]) ∧ Wrote (at_ p) w (at_ p) w' ∧ IsRing w' p (nxOf b y) (L.eraseIdx i)) := fun c =>
    (cut_any i (n - 1) (by omega) (by omega) _ (h.of_heap (w' := w.drewN c) rfl)).mono fun _ _ ⟨he, hw, hr⟩ => ⟨he, (wrote_draws w c).trans hw, hr⟩
  replace hno := Lib.hid hno
  replace hgi := Lib.hid hgi
  clear h hn
  have hyb : b = true → (y == g) = false := fun hb => by rw [beq_eq_false_iff_ne]; intro e; exact hx (by rw [hb, e]; rfl)
  unfold Turns
  cases b with
  | true =>
    have hy := hyb rfl
    clear hyb hx
    go_enter Try.func23, Try.ntmps23
    go_wp2_with fail
    go_loopw [27] (fun u wr => ∃ k c : Nat, u = .int .i64 k ∧ k ≤ i ∧ wr = w.drewN c) (fun u _ => (i - (intOf u).toNat))
    case atStart => exact ⟨0, 0, rfl, by omega, rfl⟩
    case round =>
      obtain ⟨k, c, rfl, k1, rfl⟩ := hrel
      by_cases hk : k < i
      · skip
        obtain ⟨e1, e2⟩ := hel.out k (by omega) c
        have e3 : (L.getD k 0 == g) = false := by rw [beq_eq_false_iff_ne]; exact hno.out k (by omega)
        have i2 : (k : Int) < (n : Int) := by omega
        replace e2 := Lib.hid e2
        generalize L.getD k 0 = x at *
        go_wp2_with fail
        with_reducible refine Calls.mono e1 ?_
        rintro e w2 ⟨rfl, m1, rfl⟩
        rw [World.drewN_drewN]
        have e4 := e2.out m1
        rw [World.drewN_drewN] at e4
        clear e1 e2
        go_wp2_with fail
        go_roundw
        case rel => exact ⟨k + 1, c + m1, by go_num, by omega, by first | rfl | trivial⟩
        case measure => simp [intOf]; omega
      · obtain rfl : k = i := by omega
        obtain ⟨e1, e2⟩ := hel.out k (by omega) c
        have i2 : (k : Int) < (n : Int) := by omega
        have cc := hcut.out c
        replace e2 := Lib.hid e2
        go_wp2_with fail
        with_reducible refine Calls.mono e1 ?_
        rintro e w2 ⟨rfl, m1, rfl⟩
        rw [World.drewN_drewN]
        have e4 := e2.out m1
        rw [World.drewN_drewN, hgi.out] at e4
        have cc := hcut.out (c + m1)
        clear e1 e2
        go_wp2_with fail
        with_reducible refine Calls.mono cc ?_
        rintro e w3 ⟨rfl, hfin⟩
        replace hfin := Lib.hid hfin
        go_wp2_with fail
        go_ret
        exact ⟨rfl, hfin.out⟩
  | false =>
    clear hyb hx
    go_enter Try.func23, Try.ntmps23
    go_wp2_with fail
    go_loopw [27] (fun u wr => ∃ k c : Nat, u = .int .i64 k ∧ k ≤ i ∧ wr = w.drewN c) (fun u _ => (i - (intOf u).toNat))
    case atStart => exact ⟨0, 0, rfl, by omega, rfl⟩
    case round =>
      obtain ⟨k, c, rfl, k1, rfl⟩ := hrel
      by_cases hk : k < i
      · skip
        obtain ⟨e1, e2⟩ := hel.out k (by omega) c
        have e3 : (L.getD k 0 == g) = false := by rw [beq_eq_false_iff_ne]; exact hno.out k (by omega)
        have i2 : (k : Int) < (n : Int) := by omega
        replace e2 := Lib.hid e2
        generalize L.getD k 0 = x at *
        go_wp2_with fail
        with_reducible refine Calls.mono e1 ?_
        rintro e w2 ⟨rfl, m1, rfl⟩
        rw [World.drewN_drewN]
        have e4 := e2.out m1
        rw [World.drewN_drewN] at e4
        clear e1 e2
        go_wp2_with fail
        go_roundw
        case rel => exact ⟨k + 1, c + m1, by go_num, by omega, by first | rfl | trivial⟩
        case measure => simp [intOf]; omega
      · obtain rfl : k = i := by omega
        obtain ⟨e1, e2⟩ := hel.out k (by omega) c
        have i2 : (k : Int) < (n : Int) := by omega
        have cc := hcut.out c
        replace e2 := Lib.hid e2
        go_wp2_with fail
        with_reducible refine Calls.mono e1 ?_
        rintro e w2 ⟨rfl, m1, rfl⟩
        rw [World.drewN_drewN]
        have e4 := e2.out m1
        rw [World.drewN_drewN, hgi.out] at e4
        have cc := hcut.out (c + m1)
        clear e1 e2
        go_wp2_with fail
        with_reducible refine Calls.mono cc ?_
        rintro e w3 ⟨rfl, hfin⟩
        replace hfin := Lib.hid hfin
        go_wp2_with fail
        go_ret
        exact ⟨rfl, hfin.out⟩
section
variable {W0 w : World}
theorem not_all {g : Int} (h : g ∉ allOf nx L) : nx ≠ some g ∧ ∀ j, j < L.length → L.getD j 0 ≠ g := by
  refine ⟨fun e => h (by rw [e]; simp [allOf]), fun j hj e => h ?_⟩
  unfold allOf
  refine List.mem_append_right _ ?_
  rw [← e, List.getD_eq_getElem?_getD, List.getElem?_eq_getElem hj]
  exact List.getElem_mem _
theorem rs_del_not (g : Int) (h : Rs W0 w p nx L) (hg : g ∉ allOf nx L) : Calls Try.prog 23 #[.pointer (some ⟨p, 0, none⟩), .int .i64 g] w fun e w' => e = .returned (.bool false) ∧ Rs W0 w' p nx L :=
  (del_not g (not_all hg).1 (not_all hg).2 w h.r).mono fun _ _ ⟨he, n, hn⟩ => ⟨he, by rw [hn]; exact h.below (below_drewN (Below.refl _ _) n)⟩
theorem rs_del_next (g : Int) (h : Rs W0 w p (some g) L) : Calls Try.prog 23 #[.pointer (some ⟨p, 0, none⟩), .int .i64 g] w fun e w' => e = .returned (.bool true) ∧ Rs W0 w' p none L :=
  (del_next g w h.r).mono fun _ _ ⟨he, ht, hr⟩ => ⟨he, h.turns ht hr⟩
theorem rs_del_row (g : Int) (i : Nat) (hx : nx ≠ some g) (hi : i < L.length) (hgi : L.getD i 0 = g) (hno : ∀ j, j < i → L.getD j 0 ≠ g) (h : Rs W0 w p nx L) : Calls Try.prog 23 #[.pointer (some ⟨p, 0, none⟩), .int .i64 g] w fun e w' => e = .returned (.bool true) ∧ Rs W0 w' p nx (L.eraseIdx i) :=
  (del_row g i hx hi hgi hno w h.r).mono fun _ _ ⟨he, ht, hr⟩ => ⟨he, h.turns ht hr⟩
end
/-- d numbers that rise, from i on; the same without x. -/
def upL (i : Nat) : Nat → List Int
  | 0 => []
  | d + 1 => (i : Int) :: upL (i + 1) d
def remL (x i : Nat) : Nat → List Int
  | 0 => []
  | d + 1 => (if i = x then [] else [(i : Int)]) ++ remL x (i + 1) d
theorem up_snoc : ∀ (d i : Nat), upL i (d + 1) = upL i d ++ [((i + d : Nat) : Int)]
  | 0, i => rfl
  | d + 1, i => by
    show (i : Int) :: upL (i + 1) (d + 1) = (i : Int) :: (upL (i + 1) d ++ _)
    rw [up_snoc d (i + 1), show i + 1 + d = i + (d + 1) by omega]
theorem seq_up (i : Nat) : ∀ d, seqL (i : Int) d = upL i d
  | 0 => rfl
  | d + 1 => by rw [up_snoc, ← seq_up i d]; show seqL _ d ++ [(i : Int) + (d : Int)] = _; rw [show (i : Int) + (d : Int) = ((i + d : Nat) : Int) by omega]
theorem rem_up (x : Nat) : ∀ (d i : Nat), x < i → remL x i d = upL i d
  | 0, i, _ => rfl
  | d + 1, i, h => by
    show (if i = x then [] else [(i : Int)]) ++ remL x (i + 1) d = _
    rw [if_neg (by omega), rem_up x d (i + 1) (by omega)]; rfl
theorem erase_up : ∀ (d i j : Nat), j < d → (upL i d).eraseIdx j = remL (i + j) i d
  | 0, i, j, h => by omega
  | d + 1, i, 0, _ => by
    show upL (i + 1) d = (if i = i + 0 then [] else [(i : Int)]) ++ remL (i + 0) (i + 1) d
    rw [if_pos (show i = i + 0 from rfl), rem_up _ d (i + 1) (by omega)]; rfl
  | d + 1, i, j + 1, h => by
    show (i : Int) :: (upL (i + 1) d).eraseIdx j = (if i = i + (j + 1) then [] else [(i : Int)]) ++ remL (i + (j + 1)) (i + 1) d
    rw [if_neg (by omega), erase_up d (i + 1) j (by omega), show i + 1 + j = i + (j + 1) by omega]; rfl
theorem mem_rem {x : Nat} {g : Int} : ∀ {d i : Nat}, g ∈ remL x i d → ∃ t : Nat, g = (t : Int) ∧ i ≤ t ∧ t < i + d ∧ t ≠ x
  | 0, i, h => by cases h
  | d + 1, i, h => by
    have h : g ∈ (if i = x then [] else [(i : Int)]) ++ remL x (i + 1) d := h
    rcases List.mem_append.1 h with h | h
    · by_cases e : i = x
      · rw [if_pos e] at h; cases h
      · rw [if_neg e] at h
        exact ⟨i, List.mem_singleton.1 h, Nat.le_refl _, by omega, e⟩
    · obtain ⟨t, h1, h2, h3, h4⟩ := mem_rem h
      exact ⟨t, h1, by omega, by omega, h4⟩
theorem rem_len (x : Nat) : ∀ (d i : Nat), i ≤ x → x < i + d → (remL x i d).length + 1 = d
  | 0, i, h1, h2 => by omega
  | d + 1, i, h1, h2 => by
    show ((if i = x then [] else [(i : Int)]) ++ remL x (i + 1) d).length + 1 = _
    rw [List.length_append]
    by_cases e : i = x
    · rw [if_pos e, rem_up x d (i + 1) (by omega), ← seq_up, seq_len]; simp
    · have := rem_len x d (i + 1) (by omega) (by omega)
      rw [if_neg e]; simp; omega
end Ri
end Go.Proofs.Ytclldajbibhcbaa
