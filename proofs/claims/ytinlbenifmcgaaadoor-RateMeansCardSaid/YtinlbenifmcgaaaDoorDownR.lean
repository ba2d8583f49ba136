/- container/heap's down, Init and Pop over the pile of floats. -/
import Derived.Test.YtinlbenifmcgaaaDoorPileR
namespace Go.Proofs.YtinlbenifmcgaaaDoor
open Go.RowKit Go.Lib Fx Ho Gr
set_option linter.unusedVariables false
namespace Pr
open Fk Hm
variable {w w' : World} {p : Nat} {v : Value} {L ys : List Nat}
/-- The pile at p has the row v, which holds L. -/
structure IsP (w : World) (p : Nat) (v : Value) (L : List Nat) : Prop where
  cell : w.cell? ⟨p, 0, none⟩ = some v
  free : w.frozen? ⟨p, 0, none⟩ = false
  lt : p < w.heap.size
  row : GRow 1 w v L.length (fc L)
  off : v.ownBlock ≠ some p
  wf : ∀ x ∈ L, Wf x
  small : L.length ≤ 1000
def home (p : Nat) (v : Value) : Home := fun k => k = p ∨ v.ownBlock = some k
theorem IsP.below (h : IsP w p v L) (hb : Below w.heap.size w w') : IsP w' p v L :=
  ⟨cell_then hb h.cell, by rw [hb.frozen (p := ⟨p, 0, none⟩) h.lt]; exact h.free, Nat.lt_of_lt_of_le h.lt hb.size, h.row.below hb, h.off, h.wf, h.small⟩
theorem swp_mem (hi : True) {i j : Nat} (h1 : i < L.length) (h2 : j < L.length) {x : Nat} (hx : x ∈ swp 0 L i j) : x ∈ L := (swp_perm L h1 h2).mem_iff.1 hx
/-- Two of it in each other's place. -/
theorem IsP.swap (h : IsP w p v L) {i j : Nat} (hi : i < L.length) (hj : j < L.length) (hr : GRow 1 w' v L.length (fc (swp 0 L i j))) (hw : Wrote (fun k => v.ownBlock = some k) w (fun k => v.ownBlock = some k) w') : IsP w' p v (swp 0 L i j) ∧ Wrote (home p v) w (home p v) w' :=
  ⟨⟨hw.cell h.cell h.off, (by rw [World.frozen?_of_block (a := ⟨p, 0, none⟩) (hw.block p h.lt h.off)]; exact h.free), Nat.lt_of_lt_of_le h.lt hw.size, by rw [swp_len]; exact hr, h.off, fun x hx => h.wf x (swp_mem trivial hi hj hx), by rw [swp_len]; exact h.small⟩,
   ⟨hw.os, hw.tape, hw.output, hw.size, fun k hk ho => hw.block k hk (fun e => ho (Or.inr e)), fun k hk => Or.inl hk⟩⟩
theorem less_p (h : IsP w p v L) {i j : Nat} (hi : i < L.length) (hj : j < L.length) (a b : Int) (ha : a = (i : Int)) (hb : b = (j : Int)) (W : World) (hW : Below w.heap.size w W) : Calls Tryd.prog 70 #[v, .int .i64 a, .int .i64 b] W (Ans (.bool (Fk.ahead (L.getD i 0) (L.getD j 0))) W) := by
  subst ha hb
  exact less_any (h.row.below hW) h.wf hi hj
theorem swap_p (h : IsP w p v L) {i j : Nat} (hi : i < L.length) (hj : j < L.length) (a b : Int) (ha : a = (i : Int)) (hb : b = (j : Int)) (W : World) (hW : Below w.heap.size w W) : Calls Tryd.prog 71 #[v, .int .i64 a, .int .i64 b] W (fun e w' => e = .returned (.tuple #[]) ∧ Hid (IsP w' p v (swp 0 L i j)) ∧ Hid (Wrote (home p v) w (home p v) w')) := by
  subst ha hb
  exact (swap_any (h.row.below hW) hi hj).mono fun e w' ⟨h1, h2, h3⟩ => ⟨h1, Lib.hid (((h.below hW).swap hi hj h2 h3).1), Lib.hid ((Wrote.of_below hW).trans ((h.below hW).swap hi hj h2 h3).2)⟩
-- DOWN
def Downs (w : World) (p : Nat) (v : Value) (L : List Nat) (b n i0 : Nat) (e : Ending) (w' : World) : Prop := ∃ m ys, e = .returned (.bool m) ∧ DownO 0 Fk.ahead b n i0 L m ys ∧ IsP w' p v ys ∧ Wrote (home p v) w (home p v) w'
set_option maxRecDepth 100000 in
set_option maxHeartbeats 4000000 in
theorem down_any (h : IsP w p v L) {b n i0 : Nat} (hh : Hole 0 Fk.ahead b n i0 L) (hb : b ≤ i0) (hn : n ≤ L.length) (hi0 : i0 ≤ 1000) : Calls Tryd.prog 41 #[.iface 52 (.pointer (some ⟨p, 0, none⟩)), .int .i64 i0, .int .i64 n] w (Downs w p v L b n i0) := by
  have st := Lib.hid (DownI.begin hh hb hn)
  have hs := h.small
  have hn1 : n ≤ 1000 := by omega
  replace h := Lib.hid h
  replace hn := Lib.hid hn
  clear hh hs
  go_enter Tryd.func41, Tryd.ntmps41
  go_wp2_with fail
  go_loopw [7] (fun u wr => ∃ (i : Nat) (ys : List Nat), u = .int .i64 i ∧ i ≤ 1000 ∧ Hid (DownI 0 Fk.ahead b n i0 L i ys) ∧ Hid (IsP wr p v ys) ∧ Hid (Wrote (home p v) w (home p v) wr)) (fun u _ => (1000 - (RowKit.intOf u).toNat))
  case atStart => exact ⟨i0, L, rfl, hi0, st, h, Lib.hid (Wrote.of_below (Below.refl _ _))⟩
  case round =>
    clear st h
    obtain ⟨i, ys, rfl, hi, hd, hp, hw⟩ := hrel
    have hny : n ≤ ys.length := by have := hn.out; have := hd.out.len; omega
    have hc := hp.out.cell
    have m1 := fun W (hW : World.cell? W ⟨p, 0, none⟩ = some v) => meth_less ⟨p, 0, none⟩ v W hW
    have m2 := fun W (hW : World.cell? W ⟨p, 0, none⟩ = some v) => meth_swap ⟨p, 0, none⟩ v W hW
    by_cases h1 : 2 * i + 1 < n
    · by_cases h2 : 2 * i + 2 < n
      · have cf := less_p hp.out (i := 2 * i + 2) (j := 2 * i + 1) (by omega) (by omega)
        cases hf : Fk.ahead (ys.getD (2 * i + 2) 0) (ys.getD (2 * i + 1) 0) with
        | true =>
          have hsib : ∀ s, s < n → (s = 2 * i + 1 ∨ s = 2 * i + 2) → Fk.ahead (ys.getD s 0) (ys.getD (2 * i + 2) 0) = false := fun s _ e => by
            rcases e with rfl | rfl
            · exact Fk.ahead_ord.asym _ _ hf
            · exact Hm.irrefl Fk.ahead_ord _
          rw [hf] at cf
          clear hf
          go_wp2_with fail
          with_reducible refine Calls.mono (cf _ _ (by omega) (by omega) _ (by repeat (first | assumption | exact Below.refl _ _ | refine below_drewN ?_ _ | refine below_alloc ?_ _ | refine below_then ?_ (by assumption)))) ?_
          rintro e w2 ⟨rfl, k2, rfl⟩
          clear cf
          have nx := fun h => Lib.hid (hd.out.step Fk.ahead_ord (j := 2 * i + 2) (by omega) (by omega) h hsib)
          have dn := fun h => Lib.hid (hd.out.done (fun s sn sp => Fk.ahead_ord.trans _ _ _ h (hsib s sn sp)))
          have cl := less_p hp.out (i := 2 * i + 2) (j := i) (by omega) (by omega)
          have cs := swap_p hp.out (i := i) (j := 2 * i + 2) (by omega) (by omega)
          cases hk : Fk.ahead (ys.getD (2 * i + 2) 0) (ys.getD i 0) with
          | true =>
            rw [hk] at cl
            replace nx := nx hk
            clear dn hsib hk
            go_wp2_with fail
            with_reducible refine Calls.mono (cl _ _ (by omega) (by omega) _ (by repeat (first | assumption | exact Below.refl _ _ | refine below_drewN ?_ _ | refine below_alloc ?_ _ | refine below_then ?_ (by assumption)))) ?_
            rintro e w3 ⟨rfl, k3, rfl⟩
            clear cl
            go_wp2_with fail
            with_reducible refine Calls.mono (cs _ _ (by omega) (by omega) _ (by repeat (first | assumption | exact Below.refl _ _ | refine below_drewN ?_ _ | refine below_alloc ?_ _ | refine below_then ?_ (by assumption)))) ?_
            rintro e w4 ⟨rfl, hp4, hw4⟩
            clear cs m1 m2 hc hp
            go_wp2_with fail
            go_roundw
            case rel => exact ⟨2 * i + 2, _, by go_num, by omega, nx, hp4, Lib.hid (hw.out.trans hw4.out)⟩
            case measure => simp [RowKit.intOf]; omega
          | false =>
            rw [hk] at cl
            replace dn := dn hk
            clear nx hsib hk cs
            have hii := hd.out.from_
            go_wp2_with fail
            with_reducible refine Calls.mono (cl _ _ (by omega) (by omega) _ (by repeat (first | assumption | exact Below.refl _ _ | refine below_drewN ?_ _ | refine below_alloc ?_ _ | refine below_then ?_ (by assumption)))) ?_
            rintro e w3 ⟨rfl, k3, rfl⟩
            clear cl m1 m2 hc hd
            go_wp2_with fail
            go_ret
            exact ⟨decide (i0 < i), ys, by first | rfl | (simp; done) | (by_cases hq : i0 < i <;> simp [hq] <;> omega), dn.out, hp.out.below (by repeat (first | assumption | exact Below.refl _ _ | refine below_drewN ?_ _ | refine below_alloc ?_ _ | refine below_then ?_ (by assumption))), hw.out.trans (Wrote.of_below (by repeat (first | assumption | exact Below.refl _ _ | refine below_drewN ?_ _ | refine below_alloc ?_ _ | refine below_then ?_ (by assumption))))⟩
        | false =>
          have hsib : ∀ s, s < n → (s = 2 * i + 1 ∨ s = 2 * i + 2) → Fk.ahead (ys.getD s 0) (ys.getD (2 * i + 1) 0) = false := fun s _ e => by
            rcases e with rfl | rfl
            · exact Hm.irrefl Fk.ahead_ord _
            · exact hf
          rw [hf] at cf
          clear hf
          go_wp2_with fail
          with_reducible refine Calls.mono (cf _ _ (by omega) (by omega) _ (by repeat (first | assumption | exact Below.refl _ _ | refine below_drewN ?_ _ | refine below_alloc ?_ _ | refine below_then ?_ (by assumption)))) ?_
          rintro e w2 ⟨rfl, k2, rfl⟩
          clear cf
          have nx := fun h => Lib.hid (hd.out.step Fk.ahead_ord (j := 2 * i + 1) (by omega) (by omega) h hsib)
          have dn := fun h => Lib.hid (hd.out.done (fun s sn sp => Fk.ahead_ord.trans _ _ _ h (hsib s sn sp)))
          have cl := less_p hp.out (i := 2 * i + 1) (j := i) (by omega) (by omega)
          have cs := swap_p hp.out (i := i) (j := 2 * i + 1) (by omega) (by omega)
          cases hk : Fk.ahead (ys.getD (2 * i + 1) 0) (ys.getD i 0) with
          | true =>
            rw [hk] at cl
            replace nx := nx hk
            clear dn hsib hk
            go_wp2_with fail
            with_reducible refine Calls.mono (cl _ _ (by omega) (by omega) _ (by repeat (first | assumption | exact Below.refl _ _ | refine below_drewN ?_ _ | refine below_alloc ?_ _ | refine below_then ?_ (by assumption)))) ?_
            rintro e w3 ⟨rfl, k3, rfl⟩
            clear cl
            go_wp2_with fail
            with_reducible refine Calls.mono (cs _ _ (by omega) (by omega) _ (by repeat (first | assumption | exact Below.refl _ _ | refine below_drewN ?_ _ | refine below_alloc ?_ _ | refine below_then ?_ (by assumption)))) ?_
            rintro e w4 ⟨rfl, hp4, hw4⟩
            clear cs m1 m2 hc hp
            go_wp2_with fail
            go_roundw
            case rel => exact ⟨2 * i + 1, _, by go_num, by omega, nx, hp4, Lib.hid (hw.out.trans hw4.out)⟩
            case measure => simp [RowKit.intOf]; omega
          | false =>
            rw [hk] at cl
            replace dn := dn hk
            clear nx hsib hk cs
            have hii := hd.out.from_
            go_wp2_with fail
            with_reducible refine Calls.mono (cl _ _ (by omega) (by omega) _ (by repeat (first | assumption | exact Below.refl _ _ | refine below_drewN ?_ _ | refine below_alloc ?_ _ | refine below_then ?_ (by assumption)))) ?_
            rintro e w3 ⟨rfl, k3, rfl⟩
            clear cl m1 m2 hc hd
            go_wp2_with fail
            go_ret
            exact ⟨decide (i0 < i), ys, by first | rfl | (simp; done) | (by_cases hq : i0 < i <;> simp [hq] <;> omega), dn.out, hp.out.below (by repeat (first | assumption | exact Below.refl _ _ | refine below_drewN ?_ _ | refine below_alloc ?_ _ | refine below_then ?_ (by assumption))), hw.out.trans (Wrote.of_below (by repeat (first | assumption | exact Below.refl _ _ | refine below_drewN ?_ _ | refine below_alloc ?_ _ | refine below_then ?_ (by assumption))))⟩
      · have hsib : ∀ s, s < n → (s = 2 * i + 1 ∨ s = 2 * i + 2) → Fk.ahead (ys.getD s 0) (ys.getD (2 * i + 1) 0) = false := fun s sn e => by
          rcases e with rfl | rfl
          · exact Hm.irrefl Fk.ahead_ord _
          · omega
        have nx := fun h => Lib.hid (hd.out.step Fk.ahead_ord (j := 2 * i + 1) (by omega) (by omega) h hsib)
        have dn := fun h => Lib.hid (hd.out.done (fun s sn sp => Fk.ahead_ord.trans _ _ _ h (hsib s sn sp)))
        have cl := less_p hp.out (i := 2 * i + 1) (j := i) (by omega) (by omega)
        have cs := swap_p hp.out (i := i) (j := 2 * i + 1) (by omega) (by omega)
        cases hk : Fk.ahead (ys.getD (2 * i + 1) 0) (ys.getD i 0) with
        | true =>
          rw [hk] at cl
          replace nx := nx hk
          clear dn hsib hk
          go_wp2_with fail
          with_reducible refine Calls.mono (cl _ _ (by omega) (by omega) _ (by repeat (first | assumption | exact Below.refl _ _ | refine below_drewN ?_ _ | refine below_alloc ?_ _ | refine below_then ?_ (by assumption)))) ?_
          rintro e w3 ⟨rfl, k3, rfl⟩
          clear cl
          go_wp2_with fail
          with_reducible refine Calls.mono (cs _ _ (by omega) (by omega) _ (by repeat (first | assumption | exact Below.refl _ _ | refine below_drewN ?_ _ | refine below_alloc ?_ _ | refine below_then ?_ (by assumption)))) ?_
          rintro e w4 ⟨rfl, hp4, hw4⟩
          clear cs m1 m2 hc hp
          go_wp2_with fail
          go_roundw
          case rel => exact ⟨2 * i + 1, _, by go_num, by omega, nx, hp4, Lib.hid (hw.out.trans hw4.out)⟩
          case measure => simp [RowKit.intOf]; omega
        | false =>
          rw [hk] at cl
          replace dn := dn hk
          clear nx hsib hk cs
          have hii := hd.out.from_
          go_wp2_with fail
          with_reducible refine Calls.mono (cl _ _ (by omega) (by omega) _ (by repeat (first | assumption | exact Below.refl _ _ | refine below_drewN ?_ _ | refine below_alloc ?_ _ | refine below_then ?_ (by assumption)))) ?_
          rintro e w3 ⟨rfl, k3, rfl⟩
          clear cl m1 m2 hc hd
          go_wp2_with fail
          go_ret
          exact ⟨decide (i0 < i), ys, by first | rfl | (simp; done) | (by_cases hq : i0 < i <;> simp [hq] <;> omega), dn.out, hp.out.below (by repeat (first | assumption | exact Below.refl _ _ | refine below_drewN ?_ _ | refine below_alloc ?_ _ | refine below_then ?_ (by assumption))), hw.out.trans (Wrote.of_below (by repeat (first | assumption | exact Below.refl _ _ | refine below_drewN ?_ _ | refine below_alloc ?_ _ | refine below_then ?_ (by assumption))))⟩
    · have dn := Lib.hid (hd.out.done (fun s sn sp => by omega))
      have hii := hd.out.from_
      clear m1 m2 hc hd
      go_wp2_with fail
      go_ret
      exact ⟨decide (i0 < i), ys, by first | rfl | (simp; done) | (by_cases hq : i0 < i <;> simp [hq] <;> omega), dn.out, hp.out, hw.out⟩
end Pr
end Go.Proofs.YtinlbenifmcgaaaDoor
