/- Put of a ring in all cases at once; what a ring is behind it. -/
import Derived.Test.YtpclacaiabbmjaaRingTwo
namespace Go.Proofs.Ytpclacaiabbmjaa
open Go.RowKit Go.Lib Fx Ho
set_option linter.unusedVariables false
namespace Ri
variable {w w' : World} {p : Nat} {nx : Option Int} {L : List Int} {H H' : Home}
set_option maxRecDepth 100000 in
set_option maxHeartbeats 1000000 in
theorem put_next_full {o : Int} (g : Int) (hl : L.length = 256) (w : World) (h : IsRing w p (some o) L) : Calls Try.prog 61 #[.pointer (some ⟨p, 0, none⟩), .int .i64 g, .bool true] w (Gives (L.take 128 ++ [o]) w p (some g) (L.drop 128)) := by
  obtain ⟨A, F, a, y, b, h, hb⟩ := h
  cases b with
  | false => cases hb
  | true =>
    obtain rfl : o = y := Option.some.inj hb
    obtain ⟨i0, hi, hz0, hz1, hz2⟩ := info_parts infoI
    have c3 := h.c3
    have c4 := h.c4
    have f3 := h.fz 258
    have f4 := h.fz 259
    have hp := block_lt h.head
    have h1 := h.nexted g
    have hw1 := wrote_two (p := p) (w := w) (i := 258) (j := 259) (u := .int .i64 g) (v := .bool true) rfl rfl rfl rfl
    have cr : Calls Try.prog 101 #[.pointer (some ⟨p, 0, none⟩)] ((w.setCell ⟨p, 258, none⟩ (.int .i64 g)).setCell ⟨p, 259, none⟩ (.bool true)) _ := room_any _ h1
    have hws : ((w.setCell ⟨p, 258, none⟩ (.int .i64 g)).setCell ⟨p, 259, none⟩ (.bool true)).heap.size = w.heap.size := by simp
    have cs : Calls Try.prog 103 #[.pointer (some ⟨p, 0, none⟩), .int .i64 128] ((w.setCell ⟨p, 258, none⟩ (.int .i64 g)).setCell ⟨p, 259, none⟩ (.bool true)) fun e w' => ∃ v', e = .returned v' ∧ Wrote (at_ p) w (at_ p) w' ∧ IsRing w' p (some g) (L.drop 128) ∧ w'.ownsRow w.heap.size 3 1 v' 128 (cells (L.take 128)) := (shift_any 128 (by omega) _ h1).mono fun e w' ⟨v', e1, e2, e3, e4⟩ => ⟨v', e1, hw1.trans e2, e3, by rw [hws] at e4; exact e4⟩
    have hend : Hid (∀ w1 W v1 v', Wrote (at_ p) w (at_ p) w1 → IsRing w1 p (some g) (L.drop 128) → w1.ownsRow w.heap.size 3 1 v1 128 (cells (L.take 128)) → W.ownsRow w.heap.size 3 1 v' (128 + 1) (cells (L.take 128) ++ [.int .i64 o]) → (w1.alloc (.cells #[.int .i64 o] 3)).grownBy W v1.ownBlock →
        Wrote (at_ p) w (at_ p) W ∧ IsRing W p (some g) (L.drop 128) ∧ W.ownsRow w.heap.size 3 1 v' (L.take 128 ++ [o]).length (cells (L.take 128 ++ [o]))) := fun w1 W v1 v' h1 h2 h3 h4 h5 => full_end hl h1 h2 h3 hp h4 h5
    have e0 : (256 : Int) - (L.length : Int) = 0 := by omega
    rw [e0] at cr
    clear h hb h1 hw1 e0 hws
    unfold Gives
    generalize hQ : (L.take 128 ++ [o]) = ZS at *
    generalize cells (L.take 128) = CA at *
    go_enter Try.func61, Try.ntmps61
    go_wp2_with fail
    with_reducible refine Calls.mono cr ?_
    rintro e w1 ⟨rfl, rfl⟩
    go_wp2_with fail
    with_reducible refine Calls.mono cs ?_
    rintro e w2 ⟨v1, rfl, h1, h2, h3⟩
    have hsz := h1.size
    have hend2 : Hid (∀ (W : World) (v' : Value), W.ownsRow w.heap.size 3 1 v' (128 + 1) (CA ++ [.int .i64 o]) → (w2.alloc (.cells #[.int .i64 o] 3)).grownBy W v1.ownBlock → Wrote (at_ p) w (at_ p) W ∧ IsRing W p (some g) (L.drop 128) ∧ W.ownsRow w.heap.size 3 1 v' ZS.length (cells ZS)) := fun W v' h4 h5 => hend.out w2 W v1 v' h1 h2 h3 h4 h5
    obtain ⟨sp1, cap1, rfl⟩ := own_slice h3
    replace h3 := Lib.hid h3
    clear h1 h2 hend cs cr c3 c4 f3 f4
    go_wp2_with (at_builtin; refine wpList_append_own _ rfl _ _ 41 rfl w.heap.size 3 i0 (.int .i64 0) 1 8 Try.underlying41 hi hz0 hz1 hz2 rfl (by decide) _ 128 CA rfl (h3.out.alloc _) ⟨w2.heap.size, 0, none⟩ 1 1 [.int .i64 o] rfl rfl (news_one w2 (.int .i64 o) 3) (fun x hx => by simp at hx; subst hx; rfl) (by unfold maxLen; omega) (by omega) (by show _ ≤ (w2.heap.push _).size; rw [Array.size_push]; omega) ?_; intro v' w3 hown3 hgrow hnil; clear hnil; have hfin := Lib.hid (hend2.out w3 v' hown3 hgrow); clear hgrow hown3 hend2)
    go_ret
    exact ⟨_, rfl, hfin.out⟩
/-- Who is next behind a Put, who goes to the row, the row behind it, who is told. -/
def putN (nx : Option Int) (g : Int) (b : Bool) : Option Int := if b then some g else nx
def putG (nx : Option Int) (g : Int) (b : Bool) : Option Int := if b then nx else some g
def putL (L : List Int) : Option Int → List Int
  | none => L
  | some h => if L.length < 256 then L ++ [h] else L.drop 128
def putO (L : List Int) : Option Int → List Int
  | none => []
  | some h => if L.length < 256 then [] else L.take 128 ++ [h]
/-- The call answers the numbers zs, in memory of its own; of what there was the ring at p alone has turned. -/
def Tells (zs : List Int) (w : World) (p : Nat) (nx : Option Int) (L : List Int) (e : Ending) (w' : World) : Prop :=
  ∃ v', e = .returned v' ∧ Wrote (at_ p) w (at_ p) w' ∧ IsRing w' p nx L ∧ Ints w' (fun k => w.heap.size ≤ k) v' zs
theorem tells_nil {e : Ending} (h : Turns (.slice none 0 0) w p nx L e w') : Tells [] w p nx L e w' := ⟨_, h.1, h.2.1, h.2.2, ints_nil _ _⟩
theorem tells_some {zs : List Int} {e : Ending} (h : Gives zs w p nx L e w') : Tells zs w p nx L e w' := by
  obtain ⟨v', e1, e2, e3, e4⟩ := h
  exact ⟨v', e1, e2, e3, (ints_of_owns e4).wider (fun k hk _ => (e4.lt k hk).1)⟩
theorem put_all (g : Int) (b : Bool) (w : World) (h : IsRing w p nx L) : Calls Try.prog 61 #[.pointer (some ⟨p, 0, none⟩), .int .i64 g, .bool b] w (Tells (putO L (putG nx g b)) w p (putN nx g b) (putL L (putG nx g b))) := by
  have hs := h.small
  by_cases hl : L.length < 256
  · cases b with
    | false =>
      unfold putN putG putO putL
      simp only [Bool.false_eq_true, if_false, if_pos hl]
      exact (put_row g hl w h).mono fun _ _ h => tells_nil h
    | true => cases nx with
      | none => exact (put_first g w h).mono fun _ _ h => tells_nil h
      | some o =>
        unfold putN putG putO putL
        simp only [if_true, if_pos hl]
        exact (put_next g hl w h).mono fun _ _ h => tells_nil h
  · have hl2 : L.length = 256 := by omega
    cases b with
    | false =>
      unfold putN putG putO putL
      simp only [Bool.false_eq_true, if_false, if_neg hl]
      exact (put_full g hl2 w h).mono fun _ _ h => tells_some h
    | true => cases nx with
      | none => exact (put_first g w h).mono fun _ _ h => tells_nil h
      | some o =>
        unfold putN putG putO putL
        simp only [if_true, if_neg hl]
        exact (put_next_full g hl2 w h).mono fun _ _ h => tells_some h
end Ri
end Go.Proofs.Ytpclacaiabbmjaa
