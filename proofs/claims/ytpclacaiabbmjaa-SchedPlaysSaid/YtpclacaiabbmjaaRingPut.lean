/- What Put and All of package ring answer and make. -/
import Derived.Test.YtpclacaiabbmjaaRingDo
namespace Go.Proofs.Ytpclacaiabbmjaa
open Go.RowKit Go.Lib Fx Ho
set_option linter.unusedVariables false
namespace Ri
variable {p a : Nat} {A : Array Value} {F : Nat → Int} {y : Int} {b : Bool} {L : List Int} {nx : Option Int}

/-- The call answers a row of its own with the numbers; the ring at p has turned. -/
def Gives (zs : List Int) (w : World) (p : Nat) (nx : Option Int) (L : List Int) (e : Ending) (w' : World) : Prop :=
  ∃ v', e = .returned v' ∧ Wrote (at_ p) w (at_ p) w' ∧ IsRing w' p nx L ∧ w'.ownsRow w.heap.size 3 1 v' zs.length (cells zs)

set_option maxRecDepth 100000 in
set_option maxHeartbeats 1000000 in
theorem put_row (g : Int) (hl : L.length < 256) (w : World) (h : IsRing w p nx L) : Calls Try.prog 61 #[.pointer (some ⟨p, 0, none⟩), .int .i64 g, .bool false] w (Turns (.slice none 0 0) w p nx (L ++ [g])) := by
  obtain ⟨A, F, a, y, b, h, rfl⟩ := h
  have cr := room_any w h
  have cp := push_any g hl w h
  have hlt : (0 : Int) < 256 - (L.length : Int) := by omega
  have hd : decide ((0 : Int) < 256 - (L.length : Int)) = true := decide_eq_true hlt
  clear h
  generalize L.length = n at *
  unfold Turns
  go_enter Try.func61, Try.ntmps61
  go_wp2_with (first | (go_at_call 101; ((with_reducible refine cr.mono ?_); rintro e w1 ⟨rfl, rfl⟩)) | (go_at_call 102; ((with_reducible refine cp.mono ?_); rintro e w1 ⟨rfl, hfin⟩; replace hfin := Lib.hid hfin)))
  go_ret
  exact ⟨rfl, hfin.out⟩
/-- What Put tells where the row is full. -/
theorem full_end {w w1 W : World} {v1 v' : Value} {g : Int} (hs : L.length = 256) (hw1 : Wrote (at_ p) w (at_ p) w1) (hr : IsRing w1 p nx (L.drop 128)) (ho : w1.ownsRow w.heap.size 3 1 v1 128 (cells (L.take 128))) (hp : p < w.heap.size)
    (ho2 : W.ownsRow w.heap.size 3 1 v' (128 + 1) (cells (L.take 128) ++ [.int .i64 g])) (hg : (w1.alloc (.cells #[.int .i64 g] 3)).grownBy W v1.ownBlock) :
    Wrote (at_ p) w (at_ p) W ∧ IsRing W p nx (L.drop 128) ∧ W.ownsRow w.heap.size 3 1 v' (L.take 128 ++ [g]).length (cells (L.take 128 ++ [g])) := by
  have hb : Wrote (fun k => w.heap.size ≤ k) w1 (fun k => w.heap.size ≤ k) W := by
    have h1 : Wrote (fun k => w.heap.size ≤ k) w1 (fun k => w.heap.size ≤ k) (w1.alloc (.cells #[.int .i64 g] 3)) := Wrote.of_below (below_alloc (Below.refl _ _) _)
    exact h1.trans (Wrote.of_grown hg (fun k hk => (ho.lt k hk).1))
  refine ⟨⟨hb.os.trans hw1.os, hb.tape.trans hw1.tape, hb.output.trans hw1.output, Nat.le_trans hw1.size hb.size, fun k hk hn => (hb.block k (Nat.lt_of_lt_of_le hk hw1.size) (by omega)).trans (hw1.block k hk hn), fun _ h => Or.inl h⟩, ?_, ?_⟩
  · obtain ⟨A, F, a, y, b, h, rfl⟩ := hr
    exact (h.wrote hb (by omega)).is_
  · rw [cells_app, List.length_append, List.length_take, hs]; exact ho2
set_option maxRecDepth 100000 in
set_option maxHeartbeats 1000000 in
theorem put_full (g : Int) (hl : L.length = 256) (w : World) (h : IsRing w p nx L) : Calls Try.prog 61 #[.pointer (some ⟨p, 0, none⟩), .int .i64 g, .bool false] w (Gives (L.take 128 ++ [g]) w p nx (L.drop 128)) := by
  obtain ⟨A, F, a, y, b, h, rfl⟩ := h
  obtain ⟨i0, hi, hz0, hz1, hz2⟩ := info_parts infoI
  have cr := room_any w h
  have cs := shift_any 128 (by omega) w h
  have hp := block_lt h.head
  have hend : Hid (∀ w1 W v1 v', Wrote (at_ p) w (at_ p) w1 → IsRing w1 p (nxOf b y) (L.drop 128) → w1.ownsRow w.heap.size 3 1 v1 128 (cells (L.take 128)) → W.ownsRow w.heap.size 3 1 v' (128 + 1) (cells (L.take 128) ++ [.int .i64 g]) → (w1.alloc (.cells #[.int .i64 g] 3)).grownBy W v1.ownBlock →
      Wrote (at_ p) w (at_ p) W ∧ IsRing W p (nxOf b y) (L.drop 128) ∧ W.ownsRow w.heap.size 3 1 v' (L.take 128 ++ [g]).length (cells (L.take 128 ++ [g]))) := fun w1 W v1 v' h1 h2 h3 h4 h5 => full_end hl h1 h2 h3 hp h4 h5
  have e0 : (256 : Int) - (L.length : Int) = 0 := by omega
  rw [e0] at cr
  clear h e0
  unfold Gives
  generalize nxOf b y = nx at *
  generalize hQ : (L.take 128 ++ [g]) = ZS at *
  generalize cells (L.take 128) = CA at *
  go_enter Try.func61, Try.ntmps61
  go_wp2_with fail
  with_reducible refine Calls.mono cr ?_
  rintro e w1 ⟨rfl, rfl⟩
  go_wp2_with fail
  with_reducible refine Calls.mono cs ?_
  rintro e w2 ⟨v1, rfl, h1, h2, h3⟩
  have hsz := h1.size
  have hend2 : Hid (∀ (W : World) (v' : Value), W.ownsRow w.heap.size 3 1 v' (128 + 1) (CA ++ [.int .i64 g]) → (w2.alloc (.cells #[.int .i64 g] 3)).grownBy W v1.ownBlock → Wrote (at_ p) w (at_ p) W ∧ IsRing W p nx (L.drop 128) ∧ W.ownsRow w.heap.size 3 1 v' ZS.length (cells ZS)) := fun W v' h4 h5 => hend.out w2 W v1 v' h1 h2 h3 h4 h5
  obtain ⟨sp1, cap1, rfl⟩ := own_slice h3
  replace h3 := Lib.hid h3
  clear h1 h2 hend cs cr
  go_wp2_with (at_builtin; refine wpList_append_own _ rfl _ _ 41 rfl w.heap.size 3 i0 (.int .i64 0) 1 8 Try.underlying41 hi hz0 hz1 hz2 rfl (by decide) _ 128 CA rfl (h3.out.alloc _) ⟨w2.heap.size, 0, none⟩ 1 1 [.int .i64 g] rfl rfl (news_one w2 (.int .i64 g) 3) (fun x hx => by simp at hx; subst hx; rfl) (by unfold maxLen; omega) (by omega) (by show _ ≤ (w2.heap.push _).size; rw [Array.size_push]; omega) ?_; intro v' w3 hown3 hgrow hnil; clear hnil; have hfin := Lib.hid (hend2.out w3 v' hown3 hgrow); clear hgrow hown3 hend2)
  go_ret
  exact ⟨_, rfl, hfin.out⟩
set_option maxRecDepth 100000 in
set_option maxHeartbeats 1000000 in
theorem put_first (g : Int) (w : World) (h : IsRing w p none L) : Calls Try.prog 61 #[.pointer (some ⟨p, 0, none⟩), .int .i64 g, .bool true] w (Turns (.slice none 0 0) w p (some g) L) := by
  obtain ⟨A, F, a, y, b, h, hb⟩ := h
  cases b with
  | true => cases hb
  | false =>
    have c3 := h.c3
    have c4 := h.c4
    have f3 := h.fz 258
    have f4 := h.fz 259
    have hfin : Hid (∀ W, W.heap = ((w.setCell ⟨p, 258, none⟩ (.int .i64 g)).setCell ⟨p, 259, none⟩ (.bool true)).heap → W.os = w.os → W.tape = w.tape → W.output = w.output → Wrote (at_ p) w (at_ p) W ∧ IsRing W p (some g) L) := fun W a1 a2 a3 a4 =>
      ⟨wrote_two a1 a2 a3 a4, ((h.nexted g).of_heap a1).is_⟩
    clear h hb
    unfold Turns
    go_enter Try.func61, Try.ntmps61
    go_wp2_with fail
    go_ret
    exact ⟨rfl, hfin.out _ rfl rfl rfl rfl⟩
set_option maxRecDepth 100000 in
set_option maxHeartbeats 1000000 in
theorem put_next {o : Int} (g : Int) (hl : L.length < 256) (w : World) (h : IsRing w p (some o) L) : Calls Try.prog 61 #[.pointer (some ⟨p, 0, none⟩), .int .i64 g, .bool true] w (Turns (.slice none 0 0) w p (some g) (L ++ [o])) := by
  obtain ⟨A, F, a, y, b, h, hb⟩ := h
  cases b with
  | false => cases hb
  | true =>
    obtain rfl : o = y := Option.some.inj hb
    have c3 := h.c3
    have c4 := h.c4
    have f3 := h.fz 258
    have f4 := h.fz 259
    have h1 := h.nexted g
    have hw1 := wrote_two (p := p) (w := w) (i := 258) (j := 259) (u := .int .i64 g) (v := .bool true) rfl rfl rfl rfl
    have cr : Calls Try.prog 101 #[.pointer (some ⟨p, 0, none⟩)] ((w.setCell ⟨p, 258, none⟩ (.int .i64 g)).setCell ⟨p, 259, none⟩ (.bool true)) _ := room_any _ h1
    have cp : Calls Try.prog 102 #[.pointer (some ⟨p, 0, none⟩), .int .i64 o] ((w.setCell ⟨p, 258, none⟩ (.int .i64 g)).setCell ⟨p, 259, none⟩ (.bool true)) fun e w' => e = .returned (.tuple #[]) ∧ Hid (Wrote (at_ p) w (at_ p) w' ∧ IsRing w' p (some g) (L ++ [o])) := (push_any o hl _ h1).mono fun _ _ ⟨he, hw, hr⟩ => ⟨he, hw1.trans hw, hr⟩
    have hlt : (0 : Int) < 256 - (L.length : Int) := by omega
    have hd : decide ((0 : Int) < 256 - (L.length : Int)) = true := decide_eq_true hlt
    clear h hb h1 hw1
    generalize L.length = n at *
    unfold Turns
    go_enter Try.func61, Try.ntmps61
    go_wp2_with (first | (go_at_call 101; ((with_reducible refine cr.mono ?_); rintro e w1 ⟨rfl, rfl⟩)) | (go_at_call 102; ((with_reducible refine cp.mono ?_); rintro e w1 ⟨rfl, hfin⟩)))
    go_ret
    exact ⟨rfl, hfin.out⟩
/-- All that stand there: who is next, then the row. -/
def allOf (nx : Option Int) (L : List Int) : List Int := (match nx with | some y => [y] | none => []) ++ L
set_option maxRecDepth 100000 in
set_option maxHeartbeats 1000000 in
theorem all_any (w : World) (h : IsRing w p nx L) : Calls Try.prog 74 #[.pointer (some ⟨p, 0, none⟩)] w
    fun e w' => ∃ v', e = .returned v' ∧ Below w.heap.size w w' ∧ w'.ownsRow w.heap.size 3 1 v' (allOf nx L).length (cells (allOf nx L)) := by
  have cl := len_any w h
  obtain ⟨i0, hi, hz0, hz1, hz2⟩ := info_parts infoI
  obtain ⟨A, F, a, y, b, h, rfl⟩ := h
  have hs := h.small
  have ha := h.a1
  have hp := block_lt h.head
  have c2 := h.c2
  have c4 := h.c4
  have c3 := h.c3
  obtain ⟨n, hn⟩ : ∃ n, L.length = n := ⟨_, rfl⟩
  have hring : Hid (∀ W, Below w.heap.size w W → RingAt W p A F a y b L) := fun W hb => h.below hb
  have helem : Hid (∀ k, k < n → ∀ W, Below w.heap.size w W → Calls Try.prog 107 #[.pointer (some ⟨p, 0, none⟩), .int .i64 k] W fun e w' => e = .returned (.pointer (some ⟨p, (a + k) % 256, none⟩)) ∧ Below w.heap.size w w' ∧ w'.cell? ⟨p, (a + k) % 256, none⟩ = some (.int .i64 (L.getD k 0)) ∧ (∀ (v : Value) {m : Nat} {xs : List Value}, W.ownsRow w.heap.size 3 1 v m xs → w'.ownsRow w.heap.size 3 1 v m xs)) := fun k hk W hb =>
    (at_any k (by omega) W (hring.out W hb)).mono fun e w' ⟨he, m, hm⟩ => ⟨he, by rw [hm]; exact below_drewN hb m, by rw [hm]; exact ((hring.out W hb).of_heap (w' := W.drewN m) rfl).elem (by omega), fun v k xs ho => by rw [hm]; exact ho⟩
  have htake : Hid (∀ k, k < n → L.take (k + 1) = L.take k ++ [L.getD k 0]) := fun k hk => by
    rw [List.take_succ_eq_append_getElem (by omega), List.getD_eq_getElem?_getD, List.getElem?_eq_getElem (by omega)]; rfl
  have hcells : Hid (∀ W, Below w.heap.size w W → W.cell? ⟨p, 257, none⟩ = some (.int .i64 L.length) ∧ W.cell? ⟨p, 258, none⟩ = some (.int .i64 y) ∧ W.cell? ⟨p, 259, none⟩ = some (.bool b)) := fun W hb => ⟨(hring.out W hb).c2, (hring.out W hb).c3, (hring.out W hb).c4⟩
  rw [hn] at c2 hs hcells
  have hfull0 : L.take n = L := by rw [← hn]; exact List.take_length
  obtain ⟨q1, hq1⟩ : ∃ q1, len1 (nxOf b y) L = q1 := ⟨_, rfl⟩
  have hq2 : q1 ≤ 257 := by rw [← hq1]; unfold len1; split <;> omega
  rw [hq1] at cl
  clear h
  cases b with
  | true =>
    obtain ⟨P, hP⟩ : ∃ P : List Int, P = [y] := ⟨_, rfl⟩
    have hPl : P.length = 1 := by rw [hP]; rfl
    have hfull : Hid (∀ (W : World) (v : Value), W.ownsRow w.heap.size 3 1 v (P.length + n) (cells (P ++ L.take n)) → W.ownsRow w.heap.size 3 1 v (allOf (nxOf true y) L).length (cells (allOf (nxOf true y) L))) := fun W v ho => by
      rw [hfull0, ← hn, ← List.length_append] at ho
      rw [show allOf (nxOf true y) L = P ++ L by rw [hP]; rfl]; exact ho
    clear hq1 hfull0
    go_enter Try.func74, Try.ntmps74
    go_wp2_with fail
    with_reducible refine Calls.mono cl ?_
    rintro e w' ⟨rfl, rfl⟩
    go_wp2_with (first | (refine wpList_make_own _ rfl _ _ 41 rfl w.heap.size 3 i0 (.int .i64 0) 1 Try.underlying41 hi hz0 hz1 .i64 .i64 _ q1 rfl rfl rfl (by rw [hz2]; omega) (by unfold maxLen; omega) (Nat.le_refl _) ?_; intro w1 hown1 hgrow1; have hb1 : Below w.heap.size w w1 := (Below.refl _ _).grown hgrow1 (Nat.le_refl _) (fun k hk => by cases hk); clear hgrow1; have hc := hcells.out w1 hb1; obtain ⟨d2, d3, d4⟩ := hc; have hbs1 := hb1.size; replace hown1 := Lib.hid hown1) | (at_builtin; refine wpList_append_own _ rfl _ _ 41 rfl w.heap.size 3 i0 (.int .i64 0) 1 8 Try.underlying41 hi hz0 hz1 hz2 rfl (by decide) _ 0 [] rfl (hown1.out.alloc _) ⟨w1.heap.size, 0, none⟩ 1 1 [.int .i64 y] rfl rfl (news_one w1 (.int .i64 y) 3) (fun x hx => by simp at hx; subst hx; rfl) (by unfold maxLen; omega) (by omega) (by show _ ≤ (w1.heap.push _).size; rw [Array.size_push]; omega) ?_; intro v' w3 hown3 hgrow hnil; clear hnil; have hb3 : Below w.heap.size w w3 := (below_alloc hb1 _).trans (Below.grown (Below.refl _ _) hgrow (by show _ ≤ (w1.heap.push _).size; rw [Array.size_push]; omega) (fun r hr => (hown1.out.lt r hr).1)); clear hgrow; have hc3 := hcells.out w3 hb3; obtain ⟨e2, e3, e4⟩ := hc3; replace hown3 := Lib.hid hown3))
    have hown0 : Hid (w3.ownsRow w.heap.size 3 1 v' (P.length + 0) (cells (P ++ L.take 0))) := by rw [hPl, hP]; exact hown3.out
    have hb0 := hb3
    clear hown1 hb1 hown3 hb3 hP c2 c3 c4 cl
    go_loopw [3, 25] (fun u i wr => ∃ k : Nat, i = .int .i64 k ∧ k ≤ n ∧ Hid (wr.ownsRow w.heap.size 3 1 u (P.length + k) (cells (P ++ L.take k))) ∧ Below w.heap.size w wr) (fun _ i _ => (n - (intOf i).toNat))
    case atStart => exact ⟨0, rfl, by omega, hown0, hb0⟩
    case round =>
      obtain ⟨k, rfl, k1, hown, hb⟩ := hrel
      clear hown0 hb0
      by_cases hk : k < n
      · have i2 : (k : Int) < (n : Int) := by omega
        have ca := helem.out k hk wr hb
        have ht := htake.out k hk
        go_wp2_with fail
        with_reducible refine Calls.mono ca ?_
        rintro e w2 ⟨rfl, hb2, hc2, how2⟩
        have hbs := hb2.size
        have hal : Hid (∀ (v' : Value) (W : World), W.ownsRow w.heap.size 3 1 v' (P.length + k + 1) (cells (P ++ L.take k) ++ [.int .i64 (L.getD k 0)]) → W.ownsRow w.heap.size 3 1 v' (P.length + (k + 1)) (cells (P ++ L.take (k + 1)))) := fun v' W ho => by
          rw [ht, ← List.append_assoc, cells_app (P ++ L.take k)]; exact ho
        have hkeep : Hid (∀ (W : World) (u : Value), w2.ownsRow w.heap.size 3 1 u (P.length + k) (cells (P ++ L.take k)) → (w2.alloc (.cells #[.int .i64 (L.getD k 0)] 3)).grownBy W u.ownBlock → Below w.heap.size w W) := fun W u ho hg =>
          (below_alloc hb2 _).trans (Below.grown (Below.refl _ _) hg (by show _ ≤ (w2.heap.push _).size; rw [Array.size_push]; omega) (fun r hr => (ho.lt r hr).1))
        have hown2 := Lib.hid (how2 _ hown.out)
        clear ca ht hown how2
        generalize cells (P ++ L.take k) = CA at *
        generalize L.getD k 0 = x at *
        have hq : P.length + k ≤ 300 := by omega
        generalize P.length + k = q at *
        go_wp2_with (at_builtin; refine wpList_append_own _ rfl _ _ 41 rfl w.heap.size 3 i0 (.int .i64 0) 1 8 Try.underlying41 hi hz0 hz1 hz2 rfl (by decide) _ q CA rfl (hown2.out.alloc _) ⟨w2.heap.size, 0, none⟩ 1 1 [.int .i64 x] rfl rfl (news_one w2 (.int .i64 x) 3) (fun x hx => by simp at hx; subst hx; rfl) (by unfold maxLen; omega) (by omega) (by show _ ≤ (w2.heap.push _).size; rw [Array.size_push]; omega) ?_; intro v' w3 hown3 hgrow hnil; clear hnil; have hb3 := hkeep.out _ _ hown2.out hgrow; clear hgrow; have hown4 := Lib.hid (hal.out _ _ hown3); clear hown3)
        go_roundw
        case rel => exact ⟨k + 1, by go_num, by omega, hown4, hb3⟩
        case measure => simp [intOf]; omega
      · obtain rfl : k = n := by omega
        have hf := Lib.hid (hfull.out _ _ hown.out)
        go_wp2_with fail
        go_ret
        exact ⟨_, rfl, hb, hf.out⟩
  | false =>
    obtain ⟨P, hP⟩ : ∃ P : List Int, P = [] := ⟨_, rfl⟩
    have hPl : P.length = 0 := by rw [hP]; rfl
    have hfull : Hid (∀ (W : World) (v : Value), W.ownsRow w.heap.size 3 1 v (P.length + n) (cells (P ++ L.take n)) → W.ownsRow w.heap.size 3 1 v (allOf (nxOf false y) L).length (cells (allOf (nxOf false y) L))) := fun W v ho => by
      rw [hfull0, ← hn, ← List.length_append] at ho
      rw [show allOf (nxOf false y) L = P ++ L by rw [hP]; rfl]; exact ho
    clear hq1 hfull0
    go_enter Try.func74, Try.ntmps74
    go_wp2_with fail
    with_reducible refine Calls.mono cl ?_
    rintro e w' ⟨rfl, rfl⟩
    go_wp2_with (refine wpList_make_own _ rfl _ _ 41 rfl w.heap.size 3 i0 (.int .i64 0) 1 Try.underlying41 hi hz0 hz1 .i64 .i64 _ q1 rfl rfl rfl (by rw [hz2]; omega) (by unfold maxLen; omega) (Nat.le_refl _) ?_; intro w1 hown1 hgrow1; have hb1 : Below w.heap.size w w1 := (Below.refl _ _).grown hgrow1 (Nat.le_refl _) (fun k hk => by cases hk); clear hgrow1; have hc := hcells.out w1 hb1; obtain ⟨d2, d3, d4⟩ := hc; have hbs1 := hb1.size; replace hown1 := Lib.hid hown1)
    have hown0 : Hid (w1.ownsRow w.heap.size 3 1 (.slice (some ⟨w.heap.size, 0, none⟩) 0 q1) (P.length + 0) (cells (P ++ L.take 0))) := by rw [hPl, hP]; exact hown1.out
    have hb0 := hb1
    clear hown1 hb1 hP c2 c3 c4 cl
    go_loopw [3, 25] (fun u i wr => ∃ k : Nat, i = .int .i64 k ∧ k ≤ n ∧ Hid (wr.ownsRow w.heap.size 3 1 u (P.length + k) (cells (P ++ L.take k))) ∧ Below w.heap.size w wr) (fun _ i _ => (n - (intOf i).toNat))
    case atStart => exact ⟨0, rfl, by omega, hown0, hb0⟩
    case round =>
      obtain ⟨k, rfl, k1, hown, hb⟩ := hrel
      clear hown0 hb0
      by_cases hk : k < n
      · have i2 : (k : Int) < (n : Int) := by omega
        have ca := helem.out k hk wr hb
        have ht := htake.out k hk
        go_wp2_with fail
        with_reducible refine Calls.mono ca ?_
        rintro e w2 ⟨rfl, hb2, hc2, how2⟩
        have hbs := hb2.size
        have hal : Hid (∀ (v' : Value) (W : World), W.ownsRow w.heap.size 3 1 v' (P.length + k + 1) (cells (P ++ L.take k) ++ [.int .i64 (L.getD k 0)]) → W.ownsRow w.heap.size 3 1 v' (P.length + (k + 1)) (cells (P ++ L.take (k + 1)))) := fun v' W ho => by
          rw [ht, ← List.append_assoc, cells_app (P ++ L.take k)]; exact ho
        have hkeep : Hid (∀ (W : World) (u : Value), w2.ownsRow w.heap.size 3 1 u (P.length + k) (cells (P ++ L.take k)) → (w2.alloc (.cells #[.int .i64 (L.getD k 0)] 3)).grownBy W u.ownBlock → Below w.heap.size w W) := fun W u ho hg =>
          (below_alloc hb2 _).trans (Below.grown (Below.refl _ _) hg (by show _ ≤ (w2.heap.push _).size; rw [Array.size_push]; omega) (fun r hr => (ho.lt r hr).1))
        have hown2 := Lib.hid (how2 _ hown.out)
        clear ca ht hown how2
        generalize cells (P ++ L.take k) = CA at *
        generalize L.getD k 0 = x at *
        have hq : P.length + k ≤ 300 := by omega
        generalize P.length + k = q at *
        go_wp2_with (at_builtin; refine wpList_append_own _ rfl _ _ 41 rfl w.heap.size 3 i0 (.int .i64 0) 1 8 Try.underlying41 hi hz0 hz1 hz2 rfl (by decide) _ q CA rfl (hown2.out.alloc _) ⟨w2.heap.size, 0, none⟩ 1 1 [.int .i64 x] rfl rfl (news_one w2 (.int .i64 x) 3) (fun x hx => by simp at hx; subst hx; rfl) (by unfold maxLen; omega) (by omega) (by show _ ≤ (w2.heap.push _).size; rw [Array.size_push]; omega) ?_; intro v' w3 hown3 hgrow hnil; clear hnil; have hb3 := hkeep.out _ _ hown2.out hgrow; clear hgrow; have hown4 := Lib.hid (hal.out _ _ hown3); clear hown3)
        go_roundw
        case rel => exact ⟨k + 1, by go_num, by omega, hown4, hb3⟩
        case measure => simp [intOf]; omega
      · obtain rfl : k = n := by omega
        have hf := Lib.hid (hfull.out _ _ hown.out)
        go_wp2_with fail
        go_ret
        exact ⟨_, rfl, hb, hf.out⟩
end Ri
end Go.Proofs.Ytpclacaiabbmjaa
