/- container/heap's down over page's runs. -/
import Derived.Test.YtbheabjemaaeoabSwapG
namespace Go.Proofs.Ytbheabjemaaeoab
open Go.RowKit Go.Lib Fx Ho Gr
set_option linter.unusedVariables false
namespace Pg
open Hm
variable {w w' : World} {p : Nat} {v : Value} {L ys : List Rn}
theorem wrote_perm {M : List Rn} (h : Wrote (home v M) w (home v M) w') (hp : M.Perm L) : Wrote (home v L) w (home v L) w' :=
  ⟨h.os, h.tape, h.output, h.size, fun k hk hn => h.block k hk (fun e => hn ((home_perm hp k).1 e)), fun k hk => .inl hk⟩
theorem less_p (h : IsG w p v L) {i j : Nat} (hi : i < L.length) (hj : j < L.length) (a b : Int) (ha : a = (i : Int)) (hb : b = (j : Int)) (W : World) (hW : Below w.heap.size w W) : Calls Try.prog 30 #[v, .int .i64 a, .int .i64 b] W (AnsB (.bool (Rn.ahead (L.getD i Rn.rn0) (L.getD j Rn.rn0))) W) := by
  subst ha hb
  exact less_any (h.below hW) hi hj
theorem swap_p {M : List Rn} (h : IsG w p v M) (hp : M.Perm L) {i j : Nat} (hi : i < M.length) (hj : j < M.length) (a b : Int) (ha : a = (i : Int)) (hb : b = (j : Int)) (W : World) (hW : Below w.heap.size w W) : Calls Try.prog 71 #[v, .int .i64 a, .int .i64 b] W (fun e w' => e = .returned (.tuple #[]) ∧ Hid (IsG w' p v (swp Rn.rn0 M i j)) ∧ Hid (Wrote (home v L) w (home v L) w')) := by
  subst ha hb
  exact (swap_any (h.below hW) hi hj).mono fun e w' ⟨h1, h2, h3⟩ => ⟨h1, h2, Lib.hid ((Wrote.of_below hW).trans (wrote_perm h3.out hp))⟩
-- DOWN
def Downs (w : World) (p : Nat) (v : Value) (L : List Rn) (b n i0 : Nat) (e : Ending) (w' : World) : Prop := ∃ m ys, e = .returned (.bool m) ∧ DownO Rn.rn0 Rn.ahead b n i0 L m ys ∧ IsG w' p v ys ∧ Wrote (home v L) w (home v L) w'
set_option maxRecDepth 100000 in
set_option maxHeartbeats 4000000 in
theorem down_any (h : IsG w p v L) {b n i0 : Nat} (hh : Hole Rn.rn0 Rn.ahead b n i0 L) (hb : b ≤ i0) (hn : n ≤ L.length) (hi0 : i0 ≤ 1000) : Calls Try.prog 37 #[.iface 62 (.pointer (some ⟨p, 1, none⟩)), .int .i64 i0, .int .i64 n] w (Downs w p v L b n i0) := by
  have st := Lib.hid (DownI.begin hh hb hn)
  have hs := h.small
  have hn1 : n ≤ 1000 := by omega
  replace h := Lib.hid h
  replace hn := Lib.hid hn
  clear hh hs
  go_enter Try.func37, Try.ntmps37
  go_wp2_with fail
  go_loopw [7] (fun u wr => ∃ (i : Nat) (ys : List Rn), u = .int .i64 i ∧ i ≤ 1000 ∧ Hid (DownI Rn.rn0 Rn.ahead b n i0 L i ys) ∧ Hid (IsG wr p v ys) ∧ Hid (Wrote (home v L) w (home v L) wr)) (fun u _ => (1000 - (RowKit.intOf u).toNat))
  case atStart => exact ⟨i0, L, rfl, hi0, st, h, Lib.hid (Wrote.of_below (Below.refl _ _))⟩
  case round =>
    clear st h
    obtain ⟨i, ys, rfl, hi, hd, hp, hw⟩ := hrel
    have hny : n ≤ ys.length := by have := hn.out; have := hd.out.len; omega
    have hc := hp.out.cell
    have m1 := fun W (hW : World.cell? W ⟨p, 1, none⟩ = some v) => meth_less ⟨p, 1, none⟩ v W hW
    have m2 := fun W (hW : World.cell? W ⟨p, 1, none⟩ = some v) => meth_swap ⟨p, 1, none⟩ v W hW
    by_cases h1 : 2 * i + 1 < n
    · by_cases h2 : 2 * i + 2 < n
      · have cf := less_p hp.out (i := 2 * i + 2) (j := 2 * i + 1) (by omega) (by omega)
        cases hf : Rn.ahead (ys.getD (2 * i + 2) Rn.rn0) (ys.getD (2 * i + 1) Rn.rn0) with
        | true =>
          have hsib : ∀ s, s < n → (s = 2 * i + 1 ∨ s = 2 * i + 2) → Rn.ahead (ys.getD s Rn.rn0) (ys.getD (2 * i + 2) Rn.rn0) = false := fun s _ e => by
            rcases e with rfl | rfl
            · exact Rn.ahead_ord.asym _ _ hf
            · exact Hm.irrefl Rn.ahead_ord _
          rw [hf] at cf
          clear hf
          go_wp2_with fail
          with_reducible refine Calls.mono (cf _ _ (by omega) (by omega) _ (by repeat (first | assumption | exact Below.refl _ _ | refine below_drewN ?_ _ | refine below_alloc ?_ _ | refine below_then ?_ (by assumption)))) ?_
          rintro e w2 ⟨rfl, hb2⟩
          have hcx2 := cell_then hb2 hc
          clear cf
          have nx := fun h => Lib.hid (hd.out.step Rn.ahead_ord (j := 2 * i + 2) (by omega) (by omega) h hsib)
          have dn := fun h => Lib.hid (hd.out.done (fun s sn sp => Rn.ahead_ord.trans _ _ _ h (hsib s sn sp)))
          have cl := less_p hp.out (i := 2 * i + 2) (j := i) (by omega) (by omega)
          have cs := swap_p hp.out hd.out.perm (i := i) (j := 2 * i + 2) (by omega) (by omega)
          cases hk : Rn.ahead (ys.getD (2 * i + 2) Rn.rn0) (ys.getD i Rn.rn0) with
          | true =>
            rw [hk] at cl
            replace nx := nx hk
            clear dn hsib hk
            go_wp2_with fail
            with_reducible refine Calls.mono (cl _ _ (by omega) (by omega) _ (by repeat (first | assumption | exact Below.refl _ _ | refine below_drewN ?_ _ | refine below_alloc ?_ _ | refine below_then ?_ (by assumption)))) ?_
            rintro e w3 ⟨rfl, hb3⟩
            have hcx3 := cell_then hb3 (by first | exact hcx2 | exact hc)
            clear cl
            go_wp2_with fail
            with_reducible refine Calls.mono (cs _ _ (by omega) (by omega) _ (by repeat (first | assumption | exact Below.refl _ _ | refine below_drewN ?_ _ | refine below_alloc ?_ _ | refine below_then ?_ (by assumption)))) ?_
            rintro e w4 ⟨rfl, hp4, hw4⟩
            clear cs m1 m2 hc hp
            go_wp2_with fail
            go_roundw
            case rel => exact ⟨2 * i + 2, _, by go_num, by omega, nx, hp4, Lib.hid (hw.out.trans hw4.out)⟩
            case measure => simp [RowKit.intOf]; omega
          | false =>
            rw [hk] at cl
            replace dn := dn hk
            clear nx hsib hk cs
            have hii := hd.out.from_
            go_wp2_with fail
            with_reducible refine Calls.mono (cl _ _ (by omega) (by omega) _ (by repeat (first | assumption | exact Below.refl _ _ | refine below_drewN ?_ _ | refine below_alloc ?_ _ | refine below_then ?_ (by assumption)))) ?_
            rintro e w3 ⟨rfl, hb3⟩
            have hcx3 := cell_then hb3 (by first | exact hcx2 | exact hc)
            clear cl m1 m2 hc hd
            go_wp2_with fail
            go_ret
            exact ⟨decide (i0 < i), ys, by first | rfl | (simp; done) | (by_cases hq : i0 < i <;> simp [hq] <;> omega), dn.out, hp.out.below (by repeat (first | assumption | exact Below.refl _ _ | refine below_drewN ?_ _ | refine below_alloc ?_ _ | refine below_then ?_ (by assumption))), hw.out.trans (Wrote.of_below (by repeat (first | assumption | exact Below.refl _ _ | refine below_drewN ?_ _ | refine below_alloc ?_ _ | refine below_then ?_ (by assumption))))⟩
        | false =>
          have hsib : ∀ s, s < n → (s = 2 * i + 1 ∨ s = 2 * i + 2) → Rn.ahead (ys.getD s Rn.rn0) (ys.getD (2 * i + 1) Rn.rn0) = false := fun s _ e => by
            rcases e with rfl | rfl
            · exact Hm.irrefl Rn.ahead_ord _
            · exact hf
          rw [hf] at cf
          clear hf
          go_wp2_with fail
          with_reducible refine Calls.mono (cf _ _ (by omega) (by omega) _ (by repeat (first | assumption | exact Below.refl _ _ | refine below_drewN ?_ _ | refine below_alloc ?_ _ | refine below_then ?_ (by assumption)))) ?_
          rintro e w2 ⟨rfl, hb2⟩
          have hcx2 := cell_then hb2 hc
          clear cf
          have nx := fun h => Lib.hid (hd.out.step Rn.ahead_ord (j := 2 * i + 1) (by omega) (by omega) h hsib)
          have dn := fun h => Lib.hid (hd.out.done (fun s sn sp => Rn.ahead_ord.trans _ _ _ h (hsib s sn sp)))
          have cl := less_p hp.out (i := 2 * i + 1) (j := i) (by omega) (by omega)
          have cs := swap_p hp.out hd.out.perm (i := i) (j := 2 * i + 1) (by omega) (by omega)
          cases hk : Rn.ahead (ys.getD (2 * i + 1) Rn.rn0) (ys.getD i Rn.rn0) with
          | true =>
            rw [hk] at cl
            replace nx := nx hk
            clear dn hsib hk
            go_wp2_with fail
            with_reducible refine Calls.mono (cl _ _ (by omega) (by omega) _ (by repeat (first | assumption | exact Below.refl _ _ | refine below_drewN ?_ _ | refine below_alloc ?_ _ | refine below_then ?_ (by assumption)))) ?_
            rintro e w3 ⟨rfl, hb3⟩
            have hcx3 := cell_then hb3 (by first | exact hcx2 | exact hc)
            clear cl
            go_wp2_with fail
            with_reducible refine Calls.mono (cs _ _ (by omega) (by omega) _ (by repeat (first | assumption | exact Below.refl _ _ | refine below_drewN ?_ _ | refine below_alloc ?_ _ | refine below_then ?_ (by assumption)))) ?_
            rintro e w4 ⟨rfl, hp4, hw4⟩
            clear cs m1 m2 hc hp
            go_wp2_with fail
            go_roundw
            case rel => exact ⟨2 * i + 1, _, by go_num, by omega, nx, hp4, Lib.hid (hw.out.trans hw4.out)⟩
            case measure => simp [RowKit.intOf]; omega
          | false =>
            rw [hk] at cl
            replace dn := dn hk
            clear nx hsib hk cs
            have hii := hd.out.from_
            go_wp2_with fail
            with_reducible refine Calls.mono (cl _ _ (by omega) (by omega) _ (by repeat (first | assumption | exact Below.refl _ _ | refine below_drewN ?_ _ | refine below_alloc ?_ _ | refine below_then ?_ (by assumption)))) ?_
            rintro e w3 ⟨rfl, hb3⟩
            have hcx3 := cell_then hb3 (by first | exact hcx2 | exact hc)
            clear cl m1 m2 hc hd
            go_wp2_with fail
            go_ret
            exact ⟨decide (i0 < i), ys, by first | rfl | (simp; done) | (by_cases hq : i0 < i <;> simp [hq] <;> omega), dn.out, hp.out.below (by repeat (first | assumption | exact Below.refl _ _ | refine below_drewN ?_ _ | refine below_alloc ?_ _ | refine below_then ?_ (by assumption))), hw.out.trans (Wrote.of_below (by repeat (first | assumption | exact Below.refl _ _ | refine below_drewN ?_ _ | refine below_alloc ?_ _ | refine below_then ?_ (by assumption))))⟩
      · have hsib : ∀ s, s < n → (s = 2 * i + 1 ∨ s = 2 * i + 2) → Rn.ahead (ys.getD s Rn.rn0) (ys.getD (2 * i + 1) Rn.rn0) = false := fun s sn e => by
          rcases e with rfl | rfl
          · exact Hm.irrefl Rn.ahead_ord _
          · omega
        have nx := fun h => Lib.hid (hd.out.step Rn.ahead_ord (j := 2 * i + 1) (by omega) (by omega) h hsib)
        have dn := fun h => Lib.hid (hd.out.done (fun s sn sp => Rn.ahead_ord.trans _ _ _ h (hsib s sn sp)))
        have cl := less_p hp.out (i := 2 * i + 1) (j := i) (by omega) (by omega)
        have cs := swap_p hp.out hd.out.perm (i := i) (j := 2 * i + 1) (by omega) (by omega)
        cases hk : Rn.ahead (ys.getD (2 * i + 1) Rn.rn0) (ys.getD i Rn.rn0) with
        | true =>
          rw [hk] at cl
          replace nx := nx hk
          clear dn hsib hk
          go_wp2_with fail
          with_reducible refine Calls.mono (cl _ _ (by omega) (by omega) _ (by repeat (first | assumption | exact Below.refl _ _ | refine below_drewN ?_ _ | refine below_alloc ?_ _ | refine below_then ?_ (by assumption)))) ?_
          rintro e w3 ⟨rfl, hb3⟩
          have hcx3 := cell_then hb3 (by first | exact hcx2 | exact hc)
          clear cl
          go_wp2_with fail
          with_reducible refine Calls.mono (cs _ _ (by omega) (by omega) _ (by repeat (first | assumption | exact Below.refl _ _ | refine below_drewN ?_ _ | refine below_alloc ?_ _ | refine below_then ?_ (by assumption)))) ?_
          rintro e w4 ⟨rfl, hp4, hw4⟩
          clear cs m1 m2 hc hp
          go_wp2_with fail
          go_roundw
          case rel => exact ⟨2 * i + 1, _, by go_num, by omega, nx, hp4, Lib.hid (hw.out.trans hw4.out)⟩
          case measure => simp [RowKit.intOf]; omega
        | false =>
          rw [hk] at cl
          replace dn := dn hk
          clear nx hsib hk cs
          have hii := hd.out.from_
          go_wp2_with fail
          with_reducible refine Calls.mono (cl _ _ (by omega) (by omega) _ (by repeat (first | assumption | exact Below.refl _ _ | refine below_drewN ?_ _ | refine below_alloc ?_ _ | refine below_then ?_ (by assumption)))) ?_
          rintro e w3 ⟨rfl, hb3⟩
          have hcx3 := cell_then hb3 (by first | exact hcx2 | exact hc)
          clear cl m1 m2 hc hd
          go_wp2_with fail
          go_ret
          exact ⟨decide (i0 < i), ys, by first | rfl | (simp; done) | (by_cases hq : i0 < i <;> simp [hq] <;> omega), dn.out, hp.out.below (by repeat (first | assumption | exact Below.refl _ _ | refine below_drewN ?_ _ | refine below_alloc ?_ _ | refine below_then ?_ (by assumption))), hw.out.trans (Wrote.of_below (by repeat (first | assumption | exact Below.refl _ _ | refine below_drewN ?_ _ | refine below_alloc ?_ _ | refine below_then ?_ (by assumption))))⟩
    · have dn := Lib.hid (hd.out.done (fun s sn sp => by omega))
      have hii := hd.out.from_
      clear m1 m2 hc hd
      go_wp2_with fail
      go_ret
      exact ⟨decide (i0 < i), ys, by first | rfl | (simp; done) | (by_cases hq : i0 < i <;> simp [hq] <;> omega), dn.out, hp.out, hw.out⟩
end Pg
end Go.Proofs.Ytbheabjemaaeoab
