/- container/heap's Push and Remove over page's runs. -/
import Derived.Test.YtbheabjemaaeoabPopG
import Derived.OwnWalk
namespace Go.Proofs.Ytbheabjemaaeoab
open Go.RowKit Go.Lib Fx Ho Gr
set_option linter.unusedVariables false
namespace Pg
open Hm
variable {w w' : World} {p : Nat} {v fv mv : Value} {L M ys : List Rn} {H H' : Home} {x : Rn}
theorem len_p (h : IsG w p v L) (W : World) (hW : Below w.heap.size w W) : Calls Try.prog 70 #[v] W (Still (.int .i64 L.length) W) := len_any (h.below hW)
/-- What heap.Push leaves: a heap with one more. -/
def Pushed (w : World) (p : Nat) (fv v mv : Value) (L : List Rn) (x : Rn) (e : Ending) (w' : World) : Prop := e = .returned (.tuple #[]) ∧ ∃ v' M, Pq w' p fv v' mv M ∧ Ok Rn.rn0 Rn.ahead 0 M.length M ∧ M.Perm (L ++ [x]) ∧ Wrote (fun k => home2 p v L k ∨ k = x.2.2) w (home2 p v' M) w'
set_option maxRecDepth 100000 in
set_option maxHeartbeats 4000000 in
theorem push_any (h : Pq w p fv v mv L) (ho : Ok Rn.rn0 Rn.ahead 0 L.length L) (x : Rn) (hx : New w p v L x) (hs : L.length < 1000) : Calls Try.prog 29 #[.iface 62 (.pointer (some ⟨p, 1, none⟩)), .iface 52 (.pointer (some ⟨x.2.2, 0, none⟩))] w (Pushed w p fv v mv L x) := by
  have m3 := fun W => meth_push ⟨p, 1, none⟩ W
  have cp := pushm_any h x hx hs
  have hu := Lib.hid (UpI.begin (x := x) ho rfl)
  have hll : (L ++ [x]).length = L.length + 1 := by rw [List.length_append, List.length_singleton]
  replace hll := Lib.hid hll
  obtain ⟨vx, hvx⟩ : ∃ vx : Value, .pointer (some ⟨x.2.2, 0, none⟩) = vx := ⟨_, rfl⟩
  rw [hvx] at cp ⊢
  clear h ho hx hvx
  go_enter Try.func29, Try.ntmps29
  go_wp2_with fail
  with_reducible refine Calls.mono (cp) ?_
  rintro e w2 ⟨rfl, v2, ht, hw⟩
  have hc := ht.pile.cell
  have m0 := fun W (hW : World.cell? W ⟨p, 1, none⟩ = some v2) => meth_len ⟨p, 1, none⟩ v2 W hW
  have cl := len_p ht.pile
  rw [hll.out] at cl
  have cu := up_any ht.pile hu.out
  replace cu : Calls Try.prog 36 #[.iface 62 (.pointer (some ⟨p, 1, none⟩)), .int .i64 L.length] w2 fun e w' => e = .returned (.tuple #[]) ∧ Hid (Pushed w p fv v mv L x (.returned (.tuple #[])) w') := cu.mono fun e w' ⟨h1, M, h2, h3, h4, h5⟩ => ⟨h1, Lib.hid ⟨rfl, v2, M, ht.turn h2 h5, h3, h4, (hw.trans (wide h5)).same (fun q hq => hq.elim .inl (fun hq => .inr ((home_perm h4 q).1 hq)))⟩⟩
  clear cp m3 ht hw hu
  go_wp2_with fail
  with_reducible refine Calls.mono (cl _ (by repeat (first | assumption | exact Below.refl _ _ | refine below_drewN ?_ _ | refine below_alloc ?_ _ | refine below_then ?_ (by assumption)))) ?_
  rintro e w3 ⟨rfl, rfl⟩
  clear cl m0 hc
  go_wp2_with fail
  with_reducible refine Calls.mono (cu) ?_
  rintro e w4 ⟨rfl, hfin⟩
  go_wp2_with fail
  go_end0
  exact hfin.out
/-- What heap.Remove leaves: a heap of the others; the one at i is told, and lies as it lay but for its place. -/
def Removed (w : World) (p : Nat) (fv v mv : Value) (L : List Rn) (i : Nat) (e : Ending) (w' : World) : Prop := e = .returned (.iface 52 (.pointer (some ⟨(L.getD i Rn.rn0).2.2, 0, none⟩))) ∧ ∃ v' M, Pq w' p fv v' mv M ∧ Ok Rn.rn0 Rn.ahead 0 M.length M ∧ (L.getD i Rn.rn0 :: M).Perm L ∧ Wrote (home2 p v L) w (home2 p v' M) w' ∧ (∃ a, w'.heap[(L.getD i Rn.rn0).2.2]? = some (robj (L.getD i Rn.rn0) a)) ∧ ¬ home v' M (L.getD i Rn.rn0).2.2
/-- The row ahead of the last step: a heap of k, behind it the one that goes. -/
structure Bare (L : List Rn) (k i : Nat) (Y : List Rn) : Prop where
  ok : Ok Rn.rn0 Rn.ahead 0 k Y
  perm : Y.Perm L
  last : Y.getD k Rn.rn0 = L.getD i Rn.rn0
  len : Y.length = k + 1
theorem Bare.take {k i : Nat} {Y : List Rn} (h : Bare L k i Y) : (Y.take k).length = k ∧ Ok Rn.rn0 Rn.ahead 0 k (Y.take k) ∧ (L.getD i Rn.rn0 :: Y.take k).Perm L := by
  have hl := h.len
  refine ⟨by rw [List.length_take]; omega, h.ok.same (fun c hc => take_get hc), ?_⟩
  have hp := h.perm
  rw [← cut_last (d := Rn.rn0) hl, h.last] at hp
  exact (List.perm_append_comm (l₁ := [L.getD i Rn.rn0])).trans hp
theorem mid_swap {k i : Nat} (h : Ok Rn.rn0 Rn.ahead 0 (k + 1) L) (hn : L.length = k + 1) (hi : i < k) : Hm.Hole Rn.rn0 Rn.ahead 0 k i (swp Rn.rn0 L i k) :=
  hole_mid Rn.ahead_ord (h.less (Nat.le_succ k)) hi fun c hc hk => by
    rw [swp_get _ (by omega) (by omega), if_neg (by omega), if_neg hc]
theorem bare_down {k i : Nat} {Y : List Rn} (hn : L.length = k + 1) (hi : i < k) (hd : DownO Rn.rn0 Rn.ahead 0 k i (swp Rn.rn0 L i k) true Y) : Bare L k i Y :=
  ⟨hd.moved rfl, hd.perm.trans (swp_perm _ (by omega) (by omega)), by rw [hd.rest k (Nat.le_refl k), swp_get _ (by omega) (by omega), if_pos rfl], by rw [hd.len, swp_len]; exact hn⟩
theorem bare_up {k i : Nat} {Y : List Rn} (hn : L.length = k + 1) (hi : i < k) (ho : Ok Rn.rn0 Rn.ahead 0 k Y) (hp : Y.Perm (swp Rn.rn0 L i k)) (hr : ∀ c, k ≤ c → Y.getD c Rn.rn0 = (swp Rn.rn0 L i k).getD c Rn.rn0) : Bare L k i Y :=
  ⟨ho, hp.trans (swp_perm _ (by omega) (by omega)), by rw [hr k (Nat.le_refl k), swp_get _ (by omega) (by omega), if_pos rfl], by rw [hp.length_eq, swp_len]; exact hn⟩
set_option maxRecDepth 100000 in
set_option maxHeartbeats 4000000 in
theorem remove_any (h : Pq w p fv v mv L) (ho : Ok Rn.rn0 Rn.ahead 0 L.length L) {i k : Nat} (hn : L.length = k + 1) (hi : i ≤ k) : Calls Try.prog 31 #[.iface 62 (.pointer (some ⟨p, 1, none⟩)), .int .i64 i] w (Removed w p fv v mv L i) := by
  have hs := h.pile.small
  have hc := h.pile.cell
  have m0 := fun W (hW : World.cell? W ⟨p, 1, none⟩ = some v) => meth_len ⟨p, 1, none⟩ v W hW
  have m2 := fun W (hW : World.cell? W ⟨p, 1, none⟩ = some v) => meth_swap ⟨p, 1, none⟩ v W hW
  have m3 := fun W => meth_pop ⟨p, 1, none⟩ W
  have cl := len_p h.pile
  rw [hn] at cl
  rw [hn] at ho
  have hnb : k ≤ 1000 := by omega
  have hfin : Hid (∀ (Y : List Rn) (W : World), Bare L k i Y → IsG W p v Y → Wrote (home v L) w (home v L) W → Calls Try.prog 72 #[.pointer (some ⟨p, 1, none⟩)] W (Removed w p fv v mv L i)) := Lib.hid fun Y W hB hP hW => by
    have t := h.turn hP hW
    obtain ⟨q1, q2, q3⟩ := hB.take
    refine (popm_any t hB.len).mono fun e w' ⟨h1, v', h2, h3, h4, h5⟩ => ?_
    rw [hB.last] at h1 h4 h5
    have hiff : ∀ q, home2 p v Y q ↔ home2 p v L q := fun q => or_congr Iff.rfl (home_perm hB.perm q)
    exact ⟨h1, v', Y.take k, h2, by rw [q1]; exact q2, q3, ⟨h3.os.trans hW.os, h3.tape.trans hW.tape, h3.output.trans hW.output, Nat.le_trans hW.size h3.size, fun q hq hn => (h3.block q (Nat.lt_of_lt_of_le hq hW.size) (fun e => hn ((hiff q).1 e))).trans (hW.block q hq (fun e => hn (.inr e))), fun q hq => (h3.home q hq).elim (fun e => .inl ((hiff q).1 e)) (fun e => .inr (Nat.le_trans hW.size e))⟩, ⟨_, h4⟩, h5⟩
  rcases Nat.lt_or_ge i k with hik | hik
  · have cs := swap_p h.pile (.refl L) (i := i) (j := k) (by omega) (by omega)
    have hd : Hid (∀ W, IsG W p v (swp Rn.rn0 L i k) → Calls Try.prog 37 #[.iface 62 (.pointer (some ⟨p, 1, none⟩)), .int .i64 i, .int .i64 k] W fun e w' => ∃ (m : Bool), e = .returned (.bool m) ∧ Hid (∃ (ys : List Rn), DownO Rn.rn0 Rn.ahead 0 k i (swp Rn.rn0 L i k) m ys ∧ IsG w' p v ys ∧ Wrote (home v L) W (home v L) w')) := Lib.hid fun W hW => by
      refine (down_any hW (i0 := i) (mid_swap ho hn hik) (by omega) (by rw [swp_len]; omega) (by omega)).mono fun e w' ⟨m, ys, h1, h2, h3, h4⟩ => ?_
      exact ⟨m, h1, Lib.hid ⟨ys, h2, h3, wrote_perm h4 (swp_perm _ (by omega) (by omega))⟩⟩
    have hu : Hid (∀ W, IsG W p v (swp Rn.rn0 L i k) → Hm.Kids Rn.rn0 Rn.ahead k i (swp Rn.rn0 L i k) → Calls Try.prog 36 #[.iface 62 (.pointer (some ⟨p, 1, none⟩)), .int .i64 i] W (UpsJ W p v (swp Rn.rn0 L i k) k)) := Lib.hid fun W hW hk =>
      upj_any hW ⟨.refl _, rfl, by rw [swp_len]; omega, mid_swap ho hn hik, hk, hik, fun _ _ => rfl⟩
    have hne : ¬ (k : Int) = (i : Int) := by omega
    have ik : i ≤ 1000 := by omega
    have hbd := Lib.hid fun Y hd => bare_down (L := L) (Y := Y) hn hik hd
    have hbu := Lib.hid fun Y a b c => bare_up (L := L) (Y := Y) hn hik a b c
    have hsp := Lib.hid (swp_perm (d := Rn.rn0) L (i := i) (j := k) (by omega) (by omega))
    clear ho hs hn h
    go_enter Try.func31, Try.ntmps31
    go_wp2_with fail
    with_reducible refine Calls.mono (cl _ (by repeat (first | assumption | exact Below.refl _ _ | refine below_drewN ?_ _ | refine below_alloc ?_ _ | refine below_then ?_ (by assumption)))) ?_
    rintro e w2 ⟨rfl, rfl⟩
    clear cl m0
    go_wp2_with fail
    with_reducible refine Calls.mono (cs _ _ (by omega) (by omega) _ (by repeat (first | assumption | exact Below.refl _ _ | refine below_drewN ?_ _ | refine below_alloc ?_ _ | refine below_then ?_ (by assumption)))) ?_
    rintro e w2 ⟨rfl, hp2, hw2⟩
    clear cs m2 hc
    have cd := hd.out _ hp2.out
    go_wp2_with fail
    with_reducible refine Calls.mono (cd) ?_
    rintro e w3 ⟨m, rfl, hm⟩
    clear cd hd
    cases m with
    | true =>
      obtain ⟨Y, hd3, hp3, hw3⟩ := hm.out
      have cp := hfin.out Y w3 (hbd.out Y hd3) hp3 (hw2.out.trans hw3)
      clear hm hd3 hp3 hw3 hfin hbd hbu hu
      go_wp2_with fail
      with_reducible refine Calls.mono (cp) ?_
      rintro e w4 hq
      replace hq := Lib.hid hq
      obtain ⟨rfl, -⟩ := id hq.out
      go_wp2_with fail
      go_ret
      exact hq.out
    | false =>
      obtain ⟨Y, hd3, hp3, hw3⟩ := hm.out
      obtain ⟨hy, hkd⟩ := hd3.still rfl
      subst hy
      have cu := hu.out w3 hp3 hkd
      replace hw3 := Lib.hid (hw2.out.trans hw3)
      clear hm hd3 hp3 hbd hu
      go_wp2_with fail
      with_reducible refine Calls.mono (cu) ?_
      rintro e w4 ⟨rfl, M, hp4, ho4, hm4, hr4, hw4⟩
      have cp := hfin.out M w4 (hbu.out M ho4 hm4 hr4) hp4 (hw3.out.trans (wrote_perm hw4 hsp.out))
      clear hp4 ho4 hm4 hr4 hw4 hfin hbu cu
      go_wp2_with fail
      with_reducible refine Calls.mono (cp) ?_
      rintro e w5 hq
      replace hq := Lib.hid hq
      obtain ⟨rfl, -⟩ := id hq.out
      go_wp2_with fail
      go_ret
      exact hq.out
  · obtain rfl : i = k := by omega
    have cp := hfin.out L w ⟨ho.less (Nat.le_succ i), .refl _, rfl, hn⟩ h.pile (Wrote.of_below (Below.refl _ _))
    clear ho hs hn h hfin m2
    go_enter Try.func31, Try.ntmps31
    go_wp2_with fail
    with_reducible refine Calls.mono (cl _ (by repeat (first | assumption | exact Below.refl _ _ | refine below_drewN ?_ _ | refine below_alloc ?_ _ | refine below_then ?_ (by assumption)))) ?_
    rintro e w2 ⟨rfl, rfl⟩
    clear cl m0
    go_wp2_with fail
    with_reducible refine Calls.mono (cp) ?_
    rintro e w5 hq
    replace hq := Lib.hid hq
    obtain ⟨rfl, -⟩ := id hq.out
    go_wp2_with fail
    go_ret
    exact hq.out
end Pg
end Go.Proofs.Ytbheabjemaaeoab
