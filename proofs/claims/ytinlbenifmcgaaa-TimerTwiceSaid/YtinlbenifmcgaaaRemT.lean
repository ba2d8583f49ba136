/- container/heap's Remove over the pile of sleepers. -/
import Derived.Test.YtinlbenifmcgaaaUpJ
import Derived.Test.YtinlbenifmcgaaaHeapT
import Derived.OwnWalk
namespace Go.Proofs.Ytinlbenifmcgaaa
open Go.RowKit Go.Lib Fx Ho Gr
set_option linter.unusedVariables false
namespace Pt
open Hm
variable {w w' : World} {p : Nat} {v : Value} {L M ys : List Sl} {n : Int} {H H' : Home} {x : Sl}
/-- What heap.Remove leaves: a heap of the others; the one at i is told. -/
def Removed (w : World) (p : Nat) (v : Value) (L : List Sl) (n : Int) (i : Nat) (e : Ending) (w' : World) : Prop := e = .returned (.iface 59 (sv (L.getD i Sl.sl0))) ∧ ∃ v' M, Tm w' p v' M n ∧ Ok Sl.sl0 Sl.ahead 0 M.length M ∧ (L.getD i Sl.sl0 :: M).Perm L ∧ Wrote (home2 p v) w (home2 p v') w'
/-- The row ahead of the last step: a heap of k, behind it the one that goes. -/
structure Bare (L : List Sl) (k i : Nat) (Y : List Sl) : Prop where
  ok : Ok Sl.sl0 Sl.ahead 0 k Y
  perm : Y.Perm L
  last : Y.getD k Sl.sl0 = L.getD i Sl.sl0
  len : Y.length = k + 1
theorem Bare.take {k i : Nat} {Y : List Sl} (h : Bare L k i Y) : (Y.take k).length = k ∧ Ok Sl.sl0 Sl.ahead 0 k (Y.take k) ∧ (L.getD i Sl.sl0 :: Y.take k).Perm L := by
  have hl := h.len
  refine ⟨by rw [List.length_take]; omega, h.ok.same (fun c hc => take_get hc), ?_⟩
  have hp := h.perm
  rw [← cut_last (d := Sl.sl0) hl, h.last] at hp
  exact (List.perm_append_comm (l₁ := [L.getD i Sl.sl0])).trans hp
theorem mid_swap {k i : Nat} (h : Ok Sl.sl0 Sl.ahead 0 (k + 1) L) (hn : L.length = k + 1) (hi : i < k) : Hm.Hole Sl.sl0 Sl.ahead 0 k i (swp Sl.sl0 L i k) :=
  hole_mid Sl.ahead_ord (h.less (Nat.le_succ k)) hi fun c hc hk => by
    rw [swp_get _ (by omega) (by omega), if_neg (by omega), if_neg hc]
theorem bare_down {k i : Nat} {Y : List Sl} (hn : L.length = k + 1) (hi : i < k) (hd : DownO Sl.sl0 Sl.ahead 0 k i (swp Sl.sl0 L i k) true Y) : Bare L k i Y :=
  ⟨hd.moved rfl, hd.perm.trans (swp_perm _ (by omega) (by omega)), by rw [hd.rest k (Nat.le_refl k), swp_get _ (by omega) (by omega), if_pos rfl], by rw [hd.len, swp_len]; exact hn⟩
theorem bare_up {k i : Nat} {Y : List Sl} (hn : L.length = k + 1) (hi : i < k) (ho : Ok Sl.sl0 Sl.ahead 0 k Y) (hp : Y.Perm (swp Sl.sl0 L i k)) (hr : ∀ c, k ≤ c → Y.getD c Sl.sl0 = (swp Sl.sl0 L i k).getD c Sl.sl0) : Bare L k i Y :=
  ⟨ho, hp.trans (swp_perm _ (by omega) (by omega)), by rw [hr k (Nat.le_refl k), swp_get _ (by omega) (by omega), if_pos rfl], by rw [hp.length_eq, swp_len]; exact hn⟩
set_option maxRecDepth 100000 in
set_option maxHeartbeats 4000000 in
theorem remove_any (h : Tm w p v L n) (ho : Ok Sl.sl0 Sl.ahead 0 L.length L) {i k : Nat} (hn : L.length = k + 1) (hi : i ≤ k) : Calls Try.prog 24 #[.iface 57 (.pointer (some ⟨p, 0, none⟩)), .int .i64 i] w (Removed w p v L n i) := by
  have hs := h.pile.small
  have hc := h.pile.cell
  have m0 := fun W (hW : World.cell? W ⟨p, 0, none⟩ = some v) => meth_len p v W hW
  have m2 := fun W (hW : World.cell? W ⟨p, 0, none⟩ = some v) => meth_swap p v W hW
  have m3 := fun W => meth_pop ⟨p, 0, none⟩ W
  have cl := len_p h.pile
  rw [hn] at cl
  rw [hn] at ho
  have hnb : k ≤ 1000 := by omega
  have hfin : Hid (∀ (Y : List Sl) (W : World), Bare L k i Y → IsP W p v Y → Wrote (home p v) w (home p v) W → Calls Try.prog 67 #[.pointer (some ⟨p, 0, none⟩)] W (Removed w p v L n i)) := Lib.hid fun Y W hB hP hW => by
    have t := h.turn hP hW
    obtain ⟨q1, q2, q3⟩ := hB.take
    refine (popm_any t hB.len).mono fun e w' ⟨h1, v', h2, h3⟩ => ?_
    rw [hB.last] at h1
    exact ⟨h1, v', Y.take k, h2, by rw [q1]; exact q2, q3, (wide hW).trans h3⟩
  rcases Nat.lt_or_ge i k with hik | hik
  · have cs := swap_p h.pile (i := i) (j := k) (by omega) (by omega)
    have hd : Hid (∀ W, IsP W p v (swp Sl.sl0 L i k) → Calls Try.prog 30 #[.iface 57 (.pointer (some ⟨p, 0, none⟩)), .int .i64 i, .int .i64 k] W fun e w' => ∃ (m : Bool), e = .returned (.bool m) ∧ Hid (∃ (ys : List Sl), DownO Sl.sl0 Sl.ahead 0 k i (swp Sl.sl0 L i k) m ys ∧ IsP w' p v ys ∧ Wrote (home p v) W (home p v) w')) := Lib.hid fun W hW => by
      refine (down_any hW (i0 := i) (mid_swap ho hn hik) (by omega) (by rw [swp_len]; omega) (by omega)).mono fun e w' ⟨m, ys, h1, h2, h3, h4⟩ => ?_
      exact ⟨m, h1, Lib.hid ⟨ys, h2, h3, h4⟩⟩
    have hu : Hid (∀ W, IsP W p v (swp Sl.sl0 L i k) → Hm.Kids Sl.sl0 Sl.ahead k i (swp Sl.sl0 L i k) → Calls Try.prog 28 #[.iface 57 (.pointer (some ⟨p, 0, none⟩)), .int .i64 i] W (UpsJ W p v (swp Sl.sl0 L i k) k)) := Lib.hid fun W hW hk =>
      upj_any hW ⟨.refl _, rfl, by rw [swp_len]; omega, mid_swap ho hn hik, hk, hik, fun _ _ => rfl⟩
    have hne : ¬ (k : Int) = (i : Int) := by omega
    have ik : i ≤ 1000 := by omega
    have hbd := Lib.hid fun Y hd => bare_down (L := L) (Y := Y) hn hik hd
    have hbu := Lib.hid fun Y a b c => bare_up (L := L) (Y := Y) hn hik a b c
    clear ho hs hn h
    go_enter Try.func24, Try.ntmps24
    go_wp2_with fail
    with_reducible refine Calls.mono (cl _ (by repeat (first | assumption | exact Below.refl _ _ | refine below_drewN ?_ _ | refine below_alloc ?_ _ | refine below_then ?_ (by assumption)))) ?_
    rintro e w2 ⟨rfl, rfl⟩
    clear cl m0
    go_wp2_with fail
    with_reducible refine Calls.mono (cs _ _ (by omega) (by omega) _ (by repeat (first | assumption | exact Below.refl _ _ | refine below_drewN ?_ _ | refine below_alloc ?_ _ | refine below_then ?_ (by assumption)))) ?_
    rintro e w2 ⟨rfl, hp2, hw2⟩
    clear cs m2 hc
    have cd := hd.out _ hp2.out
    go_wp2_with fail
    with_reducible refine Calls.mono (cd) ?_
    rintro e w3 ⟨m, rfl, hm⟩
    clear cd hd
    cases m with
    | true =>
      obtain ⟨Y, hd3, hp3, hw3⟩ := hm.out
      have cp := hfin.out Y w3 (hbd.out Y hd3) hp3 (hw2.out.trans hw3)
      clear hm hd3 hp3 hw3 hfin hbd hbu hu
      go_wp2_with fail
      with_reducible refine Calls.mono (cp) ?_
      rintro e w4 hq
      replace hq := Lib.hid hq
      obtain ⟨rfl, -⟩ := id hq.out
      go_wp2_with fail
      go_ret
      exact hq.out
    | false =>
      obtain ⟨Y, hd3, hp3, hw3⟩ := hm.out
      obtain ⟨hy, hkd⟩ := hd3.still rfl
      subst hy
      have cu := hu.out w3 hp3 hkd
      replace hw3 := Lib.hid (hw2.out.trans hw3)
      clear hm hd3 hp3 hbd hu
      go_wp2_with fail
      with_reducible refine Calls.mono (cu) ?_
      rintro e w4 ⟨rfl, M, hp4, ho4, hm4, hr4, hw4⟩
      have cp := hfin.out M w4 (hbu.out M ho4 hm4 hr4) hp4 (hw3.out.trans hw4)
      clear hp4 ho4 hm4 hr4 hw4 hfin hbu cu
      go_wp2_with fail
      with_reducible refine Calls.mono (cp) ?_
      rintro e w5 hq
      replace hq := Lib.hid hq
      obtain ⟨rfl, -⟩ := id hq.out
      go_wp2_with fail
      go_ret
      exact hq.out
  · obtain rfl : i = k := by omega
    have cp := hfin.out L w ⟨ho.less (Nat.le_succ i), .refl _, rfl, hn⟩ h.pile (Wrote.of_below (Below.refl _ _))
    clear ho hs hn h hfin m2
    go_enter Try.func24, Try.ntmps24
    go_wp2_with fail
    with_reducible refine Calls.mono (cl _ (by repeat (first | assumption | exact Below.refl _ _ | refine below_drewN ?_ _ | refine below_alloc ?_ _ | refine below_then ?_ (by assumption)))) ?_
    rintro e w2 ⟨rfl, rfl⟩
    clear cl m0
    go_wp2_with fail
    with_reducible refine Calls.mono (cp) ?_
    rintro e w5 hq
    replace hq := Lib.hid hq
    obtain ⟨rfl, -⟩ := id hq.out
    go_wp2_with fail
    go_ret
    exact hq.out
end Pt
end Go.Proofs.Ytinlbenifmcgaaa
