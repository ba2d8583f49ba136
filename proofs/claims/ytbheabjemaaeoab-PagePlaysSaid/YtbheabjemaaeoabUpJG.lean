/- container/heap's up over the pile of runs; the pile's own Pop and Push. -/
import Derived.Test.YtbheabjemaaeoabDownG
import Derived.Test.YtbheabjemaaeoabUpG
namespace Go.Proofs.Ytbheabjemaaeoab
open Go.RowKit Go.Lib Fx Ho Gr
set_option linter.unusedVariables false
namespace Pg
open Hm
variable {w w' : World} {p : Nat} {v : Value} {L ys : List Rn}
/-- up, over the first n of a row: the one at j is on its way. -/
structure UpJ (n : Nat) (ys0 : List Rn) (j : Nat) (ys : List Rn) : Prop where
  perm : ys.Perm ys0
  len : ys.length = ys0.length
  le : n ≤ ys0.length
  hole : Hm.Hole Rn.rn0 Rn.ahead 0 n j ys
  kids : Hm.Kids Rn.rn0 Rn.ahead n j ys
  lt : j < n
  rest : ∀ k, n ≤ k → ys.getD k Rn.rn0 = ys0.getD k Rn.rn0
theorem UpJ.step {n j i : Nat} {ys0 ys : List Rn} (h : UpJ n ys0 j ys) (hi : i = (j - 1) / 2) (j0 : 0 < j) (hl : Rn.ahead (ys.getD j Rn.rn0) (ys.getD i Rn.rn0) = true) : UpJ n ys0 i (swp Rn.rn0 ys i j) := by
  subst hi
  have hj := h.lt
  have hn := h.len
  have hle := h.le
  obtain ⟨h1, h2⟩ := h.hole.rise Rn.ahead_ord h.kids (by omega) h.lt j0 rfl hl
  exact ⟨(swp_perm _ (by omega) (by omega)).trans h.perm, by rw [swp_len]; exact hn, hle, h1, h2, by omega, fun k hk => by
    rw [swp_get _ (by omega) (by omega), if_neg (by omega), if_neg (by omega)]
    exact h.rest k hk⟩
theorem UpJ.done {n j : Nat} {ys0 ys : List Rn} (h : UpJ n ys0 j ys) (hu : 0 < j → Rn.ahead (ys.getD j Rn.rn0) (ys.getD ((j - 1) / 2) Rn.rn0) = false) : Ok Rn.rn0 Rn.ahead 0 n ys :=
  h.hole.done (fun j0 _ => hu j0) h.kids
def UpsJ (w : World) (p : Nat) (v : Value) (L : List Rn) (n : Nat) (e : Ending) (w' : World) : Prop := e = .returned (.tuple #[]) ∧ ∃ M, IsG w' p v M ∧ Ok Rn.rn0 Rn.ahead 0 n M ∧ M.Perm L ∧ (∀ k, n ≤ k → M.getD k Rn.rn0 = L.getD k Rn.rn0) ∧ Wrote (home v L) w (home v L) w'
set_option maxRecDepth 100000 in
set_option maxHeartbeats 4000000 in
theorem upj_any (h : IsG w p v L) {n j0 : Nat} (hu : UpJ n L j0 L) : Calls Try.prog 36 #[.iface 62 (.pointer (some ⟨p, 1, none⟩)), .int .i64 j0] w (UpsJ w p v L n) := by
  have hs := h.small
  have hln := hu.len
  have hj0 := hu.lt
  have hle := hu.le
  have hn1 : n ≤ 1000 := by omega
  have hj1 : j0 ≤ 1000 := by omega
  replace h := Lib.hid h
  replace hu := Lib.hid hu
  clear hs hln hj0 hle
  go_enter Try.func36, Try.ntmps36
  go_wp2_with fail
  go_loopw [1] (fun u wr => ∃ (j : Nat) (ys : List Rn), u = .int .i64 j ∧ j ≤ 1000 ∧ Hid (UpJ n L j ys) ∧ Hid (IsG wr p v ys) ∧ Hid (Wrote (home v L) w (home v L) wr)) (fun u _ => (RowKit.intOf u).toNat)
  case atStart => exact ⟨j0, L, rfl, hj1, hu, h, Lib.hid (Wrote.of_below (Below.refl _ _))⟩
  case round =>
    clear hu h
    obtain ⟨j, ys, rfl, hj, hd, hp, hw⟩ := hrel
    have hc := hp.out.cell
    have m1 := fun W (hW : World.cell? W ⟨p, 1, none⟩ = some v) => meth_less ⟨p, 1, none⟩ v W hW
    have m2 := fun W (hW : World.cell? W ⟨p, 1, none⟩ = some v) => meth_swap ⟨p, 1, none⟩ v W hW
    have hyl := hd.out.len
    have hjn := hd.out.lt
    have hle := hd.out.le
    rcases j with _ | k
    · have dn := Lib.hid (hd.out.done (fun h => by omega))
      have hpm := Lib.hid hd.out.perm
      have hrs := Lib.hid hd.out.rest
      rw [show ((0 : Nat) : Int) = 0 from rfl]
      clear m1 m2 hc hd
      go_wp2_with fail
      go_end0
      exact ⟨rfl, ys, hp.out, dn.out, hpm.out, hrs.out, hw.out⟩
    · obtain ⟨i, hi⟩ : ∃ i, k / 2 = i := ⟨_, rfl⟩
      have hq1 : (k : Int).tdiv 2 = (i : Int) := by rw [Int.tdiv_eq_ediv_of_nonneg (by omega)]; omega
      have hq2 : (k : Int) / 2 = (i : Int) := by omega
      have hne : ¬ (i : Int) = (k : Int) + 1 := by omega
      have cl := less_p hp.out (i := k + 1) (j := i) (by omega) (by omega)
      have cs := swap_p hp.out hd.out.perm (i := i) (j := k + 1) (by omega) (by omega)
      have nx := fun h => Lib.hid (hd.out.step (i := i) (by omega) (by omega) h)
      have dn := fun (h : Rn.ahead (ys.getD (k + 1) Rn.rn0) (ys.getD i Rn.rn0) = false) => Lib.hid (hd.out.done (fun _ => by rw [Nat.add_sub_cancel, hi]; exact h))
      have hpm := Lib.hid hd.out.perm
      have hrs := Lib.hid hd.out.rest
      have hik : i ≤ k := by omega
      replace hi := Lib.hid hi
      simp only [Int.natCast_add, Int.natCast_one]
      cases hk : Rn.ahead (ys.getD (k + 1) Rn.rn0) (ys.getD i Rn.rn0) with
      | true =>
        rw [hk] at cl
        replace nx := nx hk
        clear dn hk
        go_wp2_with fail
        with_reducible refine Calls.mono (cl _ _ (by omega) (by omega) _ (by repeat (first | assumption | exact Below.refl _ _ | refine below_drewN ?_ _ | refine below_alloc ?_ _ | refine below_then ?_ (by assumption)))) ?_
        rintro e w3 ⟨rfl, hb3⟩
        have hcx3 := cell_then hb3 hc
        clear cl
        go_wp2_with fail
        with_reducible refine Calls.mono (cs _ _ (by omega) (by omega) _ (by repeat (first | assumption | exact Below.refl _ _ | refine below_drewN ?_ _ | refine below_alloc ?_ _ | refine below_then ?_ (by assumption)))) ?_
        rintro e w4 ⟨rfl, hp4, hw4⟩
        clear cs m1 m2 hc hp
        go_wp2_with fail
        go_roundw
        case rel => exact ⟨i, _, by go_num, by omega, nx, hp4, Lib.hid (hw.out.trans hw4.out)⟩
        case measure => simp [RowKit.intOf]; omega
      | false =>
        rw [hk] at cl
        replace dn := dn hk
        clear nx hk cs
        go_wp2_with fail
        with_reducible refine Calls.mono (cl _ _ (by omega) (by omega) _ (by repeat (first | assumption | exact Below.refl _ _ | refine below_drewN ?_ _ | refine below_alloc ?_ _ | refine below_then ?_ (by assumption)))) ?_
        rintro e w3 ⟨rfl, hb3⟩
        clear cl m1 m2 hc hd
        go_wp2_with fail
        go_end0
        exact ⟨rfl, ys, hp.out.below hb3, dn.out, hpm.out, hrs.out, hw.out.trans (Wrote.of_below hb3)⟩
end Pg
end Go.Proofs.Ytbheabjemaaeoab
