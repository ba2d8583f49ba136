/- container/heap's down over the pile of sleepers. -/
import Derived.Test.YtinlbenifmcgaaaSwapT
namespace Go.Proofs.Ytinlbenifmcgaaa
open Go.RowKit Go.Lib Fx Ho Gr
set_option linter.unusedVariables false
namespace Pt
open Hm
variable {w w' : World} {p : Nat} {v : Value} {L ys : List Sl}
/-- The pile at p has the row v, which holds L. -/
structure IsP (w : World) (p : Nat) (v : Value) (L : List Sl) : Prop where
  cell : w.cell? ⟨p, 0, none⟩ = some v
  free : w.frozen? ⟨p, 0, none⟩ = false
  lt : p < w.heap.size
  row : GRow 3 w v L.length (sc L)
  off : v.ownBlock ≠ some p
  small : L.length ≤ 1000
def home (p : Nat) (v : Value) : Home := fun k => v.ownBlock = some k
theorem IsP.below (h : IsP w p v L) (hb : Below w.heap.size w w') : IsP w' p v L :=
  ⟨cell_then hb h.cell, by rw [hb.frozen (p := ⟨p, 0, none⟩) h.lt]; exact h.free, Nat.lt_of_lt_of_le h.lt hb.size, h.row.below hb, h.off, h.small⟩
/-- Two of it in each other's place. -/
theorem IsP.swap (h : IsP w p v L) {i j : Nat} (hi : i < L.length) (hj : j < L.length) (hr : GRow 3 w' v L.length (sc (swp Sl.sl0 L i j))) (hw : Wrote (fun k => v.ownBlock = some k) w (fun k => v.ownBlock = some k) w') : IsP w' p v (swp Sl.sl0 L i j) :=
  ⟨hw.cell h.cell h.off, (by rw [World.frozen?_of_block (a := ⟨p, 0, none⟩) (hw.block p h.lt h.off)]; exact h.free), Nat.lt_of_lt_of_le h.lt hw.size, by rw [swp_len]; exact hr, h.off, by rw [swp_len]; exact h.small⟩
theorem less_p (h : IsP w p v L) {i j : Nat} (hi : i < L.length) (hj : j < L.length) (a b : Int) (ha : a = (i : Int)) (hb : b = (j : Int)) (W : World) (hW : Below w.heap.size w W) : Calls Try.prog 65 #[v, .int .i64 a, .int .i64 b] W (AnsB (.bool (Sl.ahead (L.getD i Sl.sl0) (L.getD j Sl.sl0))) W) := by
  subst ha hb
  exact less_any (h.row.below hW) hi hj
theorem swap_p (h : IsP w p v L) {i j : Nat} (hi : i < L.length) (hj : j < L.length) (a b : Int) (ha : a = (i : Int)) (hb : b = (j : Int)) (W : World) (hW : Below w.heap.size w W) : Calls Try.prog 66 #[v, .int .i64 a, .int .i64 b] W (fun e w' => e = .returned (.tuple #[]) ∧ Hid (IsP w' p v (swp Sl.sl0 L i j)) ∧ Hid (Wrote (home p v) w (home p v) w')) := by
  subst ha hb
  exact (swap_any (h.row.below hW) hi hj).mono fun e w' ⟨h1, h2, h3⟩ => ⟨h1, Lib.hid ((h.below hW).swap hi hj h2 h3), Lib.hid ((Wrote.of_below hW).trans h3)⟩
-- DOWN
def Downs (w : World) (p : Nat) (v : Value) (L : List Sl) (b n i0 : Nat) (e : Ending) (w' : World) : Prop := ∃ m ys, e = .returned (.bool m) ∧ DownO Sl.sl0 Sl.ahead b n i0 L m ys ∧ IsP w' p v ys ∧ Wrote (home p v) w (home p v) w'
set_option maxRecDepth 100000 in
set_option maxHeartbeats 4000000 in
theorem down_any (h : IsP w p v L) {b n i0 : Nat} (hh : Hole Sl.sl0 Sl.ahead b n i0 L) (hb : b ≤ i0) (hn : n ≤ L.length) (hi0 : i0 ≤ 1000) : Calls Try.prog 30 #[.iface 57 (.pointer (some ⟨p, 0, none⟩)), .int .i64 i0, .int .i64 n] w (Downs w p v L b n i0) := by
  have st := Lib.hid (DownI.begin hh hb hn)
  have hs := h.small
  have hn1 : n ≤ 1000 := by omega
  replace h := Lib.hid h
  replace hn := Lib.hid hn
  clear hh hs
  go_enter Try.func30, Try.ntmps30
  go_wp2_with fail
  go_loopw [7] (fun u wr => ∃ (i : Nat) (ys : List Sl), u = .int .i64 i ∧ i ≤ 1000 ∧ Hid (DownI Sl.sl0 Sl.ahead b n i0 L i ys) ∧ Hid (IsP wr p v ys) ∧ Hid (Wrote (home p v) w (home p v) wr)) (fun u _ => (1000 - (RowKit.intOf u).toNat))
  case atStart => exact ⟨i0, L, rfl, hi0, st, h, Lib.hid (Wrote.of_below (Below.refl _ _))⟩
  case round =>
    clear st h
    obtain ⟨i, ys, rfl, hi, hd, hp, hw⟩ := hrel
    have hny : n ≤ ys.length := by have := hn.out; have := hd.out.len; omega
    have hc := hp.out.cell
    have m1 := fun W (hW : World.cell? W ⟨p, 0, none⟩ = some v) => meth_less p v W hW
    have m2 := fun W (hW : World.cell? W ⟨p, 0, none⟩ = some v) => meth_swap p v W hW
    by_cases h1 : 2 * i + 1 < n
    · by_cases h2 : 2 * i + 2 < n
      · have cf := less_p hp.out (i := 2 * i + 2) (j := 2 * i + 1) (by omega) (by omega)
        cases hf : Sl.ahead (ys.getD (2 * i + 2) Sl.sl0) (ys.getD (2 * i + 1) Sl.sl0) with
        | true =>
          have hsib : ∀ s, s < n → (s = 2 * i + 1 ∨ s = 2 * i + 2) → Sl.ahead (ys.getD s Sl.sl0) (ys.getD (2 * i + 2) Sl.sl0) = false := fun s _ e => by
            rcases e with rfl | rfl
            · exact Sl.ahead_ord.asym _ _ hf
            · exact Hm.irrefl Sl.ahead_ord _
          rw [hf] at cf
          clear hf
          go_wp2_with fail
          with_reducible refine Calls.mono (cf _ _ (by omega) (by omega) _ (by repeat (first | assumption | exact Below.refl _ _ | refine below_drewN ?_ _ | refine below_alloc ?_ _ | refine below_then ?_ (by assumption)))) ?_
          rintro e w2 ⟨rfl, hb2⟩
          have hcx2 := cell_then hb2 hc
          clear cf
          have nx := fun h => Lib.hid (hd.out.step Sl.ahead_ord (j := 2 * i + 2) (by omega) (by omega) h hsib)
          have dn := fun h => Lib.hid (hd.out.done (fun s sn sp => Sl.ahead_ord.trans _ _ _ h (hsib s sn sp)))
          have cl := less_p hp.out (i := 2 * i + 2) (j := i) (by omega) (by omega)
          have cs := swap_p hp.out (i := i) (j := 2 * i + 2) (by omega) (by omega)
          cases hk : Sl.ahead (ys.getD (2 * i + 2) Sl.sl0) (ys.getD i Sl.sl0) with
          | true =>
            rw [hk] at cl
            replace nx := nx hk
            clear dn hsib hk
            go_wp2_with fail
            with_reducible refine Calls.mono (cl _ _ (by omega) (by omega) _ (by repeat (first | assumption | exact Below.refl _ _ | refine below_drewN ?_ _ | refine below_alloc ?_ _ | refine below_then ?_ (by assumption)))) ?_
            rintro e w3 ⟨rfl, hb3⟩
            have hcx3 := cell_then hb3 (by first | exact hcx2 | exact hc)
            clear cl
            go_wp2_with fail
            with_reducible refine Calls.mono (cs _ _ (by omega) (by omega) _ (by repeat (first | assumption | exact Below.refl _ _ | refine below_drewN ?_ _ | refine below_alloc ?_ _ | refine below_then ?_ (by assumption)))) ?_
            rintro e w4 ⟨rfl, hp4, hw4⟩
            clear cs m1 m2 hc hp
            go_wp2_with fail
            go_roundw
            case rel => exact ⟨2 * i + 2, _, by go_num, by omega, nx, hp4, Lib.hid (hw.out.trans hw4.out)⟩
            case measure => simp [RowKit.intOf]; omega
          | false =>
            rw [hk] at cl
            replace dn := dn hk
            clear nx hsib hk cs
            have hii := hd.out.from_
            go_wp2_with fail
            with_reducible refine Calls.mono (cl _ _ (by omega) (by omega) _ (by repeat (first | assumption | exact Below.refl _ _ | refine below_drewN ?_ _ | refine below_alloc ?_ _ | refine below_then ?_ (by assumption)))) ?_
            rintro e w3 ⟨rfl, hb3⟩
            have hcx3 := cell_then hb3 (by first | exact hcx2 | exact hc)
            clear cl m1 m2 hc hd
            go_wp2_with fail
            go_ret
            exact ⟨decide (i0 < i), ys, by first | rfl | (simp; done) | (by_cases hq : i0 < i <;> simp [hq] <;> omega), dn.out, hp.out.below (by repeat (first | assumption | exact Below.refl _ _ | refine below_drewN ?_ _ | refine below_alloc ?_ _ | refine below_then ?_ (by assumption))), hw.out.trans (Wrote.of_below (by repeat (first | assumption | exact Below.refl _ _ | refine below_drewN ?_ _ | refine below_alloc ?_ _ | refine below_then ?_ (by assumption))))⟩
        | false =>
          have hsib : ∀ s, s < n → (s = 2 * i + 1 ∨ s = 2 * i + 2) → Sl.ahead (ys.getD s Sl.sl0) (ys.getD (2 * i + 1) Sl.sl0) = false := fun s _ e => by
            rcases e with rfl | rfl
            · exact Hm.irrefl Sl.ahead_ord _
            · exact hf
          rw [hf] at cf
          clear hf
          go_wp2_with fail
          with_reducible refine Calls.mono (cf _ _ (by omega) (by omega) _ (by repeat (first | assumption | exact Below.refl _ _ | refine below_drewN ?_ _ | refine below_alloc ?_ _ | refine below_then ?_ (by assumption)))) ?_
          rintro e w2 ⟨rfl, hb2⟩
          have hcx2 := cell_then hb2 hc
          clear cf
          have nx := fun h => Lib.hid (hd.out.step Sl.ahead_ord (j := 2 * i + 1) (by omega) (by omega) h hsib)
          have dn := fun h => Lib.hid (hd.out.done (fun s sn sp => Sl.ahead_ord.trans _ _ _ h (hsib s sn sp)))
          have cl := less_p hp.out (i := 2 * i + 1) (j := i) (by omega) (by omega)
          have cs := swap_p hp.out (i := i) (j := 2 * i + 1) (by omega) (by omega)
          cases hk : Sl.ahead (ys.getD (2 * i + 1) Sl.sl0) (ys.getD i Sl.sl0) with
          | true =>
            rw [hk] at cl
            replace nx := nx hk
            clear dn hsib hk
            go_wp2_with fail
            with_reducible refine Calls.mono (cl _ _ (by omega) (by omega) _ (by repeat (first | assumption | exact Below.refl _ _ | refine below_drewN ?_ _ | refine below_alloc ?_ _ | refine below_then ?_ (by assumption)))) ?_
            rintro e w3 ⟨rfl, hb3⟩
            have hcx3 := cell_then hb3 (by first | exact hcx2 | exact hc)
            clear cl
            go_wp2_with fail
            with_reducible refine Calls.mono (cs _ _ (by omega) (by omega) _ (by repeat (first | assumption | exact Below.refl _ _ | refine below_drewN ?_ _ | refine below_alloc ?_ _ | refine below_then ?_ (by assumption)))) ?_
            rintro e w4 ⟨rfl, hp4, hw4⟩
            clear cs m1 m2 hc hp
            go_wp2_with fail
            go_roundw
            case rel => exact ⟨2 * i + 1, _, by go_num, by omega, nx, hp4, Lib.hid (hw.out.trans hw4.out)⟩
            case measure => simp [RowKit.intOf]; omega
          | false =>
            rw [hk] at cl
            replace dn := dn hk
            clear nx hsib hk cs
            have hii := hd.out.from_
            go_wp2_with fail
            with_reducible refine Calls.mono (cl _ _ (by omega) (by omega) _ (by repeat (first | assumption | exact Below.refl _ _ | refine below_drewN ?_ _ | refine below_alloc ?_ _ | refine below_then ?_ (by assumption)))) ?_
            rintro e w3 ⟨rfl, hb3⟩
            have hcx3 := cell_then hb3 (by first | exact hcx2 | exact hc)
            clear cl m1 m2 hc hd
            go_wp2_with fail
            go_ret
            exact ⟨decide (i0 < i), ys, by first | rfl | (simp; done) | (by_cases hq : i0 < i <;> simp [hq] <;> omega), dn.out, hp.out.below (by repeat (first | assumption | exact Below.refl _ _ | refine below_drewN ?_ _ | refine below_alloc ?_ _ | refine below_then ?_ (by assumption))), hw.out.trans (Wrote.of_below (by repeat (first | assumption | exact Below.refl _ _ | refine below_drewN ?_ _ | refine below_alloc ?_ _ | refine below_then ?_ (by assumption))))⟩
      · have hsib : ∀ s, s < n → (s = 2 * i + 1 ∨ s = 2 * i + 2) → Sl.ahead (ys.getD s Sl.sl0) (ys.getD (2 * i + 1) Sl.sl0) = false := fun s sn e => by
          rcases e with rfl | rfl
          · exact Hm.irrefl Sl.ahead_ord _
          · omega
        have nx := fun h => Lib.hid (hd.out.step Sl.ahead_ord (j := 2 * i + 1) (by omega) (by omega) h hsib)
        have dn := fun h => Lib.hid (hd.out.done (fun s sn sp => Sl.ahead_ord.trans _ _ _ h (hsib s sn sp)))
        have cl := less_p hp.out (i := 2 * i + 1) (j := i) (by omega) (by omega)
        have cs := swap_p hp.out (i := i) (j := 2 * i + 1) (by omega) (by omega)
        cases hk : Sl.ahead (ys.getD (2 * i + 1) Sl.sl0) (ys.getD i Sl.sl0) with
        | true =>
          rw [hk] at cl
          replace nx := nx hk
          clear dn hsib hk
          go_wp2_with fail
          with_reducible refine Calls.mono (cl _ _ (by omega) (by omega) _ (by repeat (first | assumption | exact Below.refl _ _ | refine below_drewN ?_ _ | refine below_alloc ?_ _ | refine below_then ?_ (by assumption)))) ?_
          rintro e w3 ⟨rfl, hb3⟩
          have hcx3 := cell_then hb3 (by first | exact hcx2 | exact hc)
          clear cl
          go_wp2_with fail
          with_reducible refine Calls.mono (cs _ _ (by omega) (by omega) _ (by repeat (first | assumption | exact Below.refl _ _ | refine below_drewN ?_ _ | refine below_alloc ?_ _ | refine below_then ?_ (by assumption)))) ?_
          rintro e w4 ⟨rfl, hp4, hw4⟩
          clear cs m1 m2 hc hp
          go_wp2_with fail
          go_roundw
          case rel => exact ⟨2 * i + 1, _, by go_num, by omega, nx, hp4, Lib.hid (hw.out.trans hw4.out)⟩
          case measure => simp [RowKit.intOf]; omega
        | false =>
          rw [hk] at cl
          replace dn := dn hk
          clear nx hsib hk cs
          have hii := hd.out.from_
          go_wp2_with fail
          with_reducible refine Calls.mono (cl _ _ (by omega) (by omega) _ (by repeat (first | assumption | exact Below.refl _ _ | refine below_drewN ?_ _ | refine below_alloc ?_ _ | refine below_then ?_ (by assumption)))) ?_
          rintro e w3 ⟨rfl, hb3⟩
          have hcx3 := cell_then hb3 (by first | exact hcx2 | exact hc)
          clear cl m1 m2 hc hd
          go_wp2_with fail
          go_ret
          exact ⟨decide (i0 < i), ys, by first | rfl | (simp; done) | (by_cases hq : i0 < i <;> simp [hq] <;> omega), dn.out, hp.out.below (by repeat (first | assumption | exact Below.refl _ _ | refine below_drewN ?_ _ | refine below_alloc ?_ _ | refine below_then ?_ (by assumption))), hw.out.trans (Wrote.of_below (by repeat (first | assumption | exact Below.refl _ _ | refine below_drewN ?_ _ | refine below_alloc ?_ _ | refine below_then ?_ (by assumption))))⟩
    · have dn := Lib.hid (hd.out.done (fun s sn sp => by omega))
      have hii := hd.out.from_
      clear m1 m2 hc hd
      go_wp2_with fail
      go_ret
      exact ⟨decide (i0 < i), ys, by first | rfl | (simp; done) | (by_cases hq : i0 < i <;> simp [hq] <;> omega), dn.out, hp.out, hw.out⟩
end Pt
end Go.Proofs.Ytinlbenifmcgaaa
