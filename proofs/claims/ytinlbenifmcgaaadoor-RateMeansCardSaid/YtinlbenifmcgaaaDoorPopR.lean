/- container/heap's Init and Pop over the pile of floats. -/
import Derived.Test.YtinlbenifmcgaaaDoorDownR
namespace Go.Proofs.YtinlbenifmcgaaaDoor
open Go.RowKit Go.Lib Fx Ho Gr
set_option linter.unusedVariables false
namespace Pr
open Fk Hm
variable {w w' : World} {p : Nat} {v : Value} {L ys : List Nat}
/-- What a pop leaves. -/
def Popm (w : World) (p : Nat) (v : Value) (L : List Nat) (x : Nat) (e : Ending) (w' : World) : Prop := e = .returned (.iface 23 (.float .f64 x)) ∧ ∃ v', IsP w' p v' L ∧ Wrote (home p v) w (home p v') w'
set_option maxRecDepth 100000 in
/-- The pile's own Pop: the last one. -/
theorem popm_any (h : IsP w p v L) {n : Nat} (hn : L.length = n + 1) : Calls Tryd.prog 72 #[.pointer (some ⟨p, 0, none⟩)] w (Popm w p v (L.take n) (L.getD n 0)) := by
  have h0 := h
  obtain ⟨ao, b, off, cap, rfl, hle, hm, ha, hc⟩ := h.row.cell
  obtain ⟨rfl, hbl, -⟩ := ha (by omega)
  have cn := (hc n _ (fc_get (by omega))).1
  have hp := h.cell
  have fp := h.free
  have hpl := h.lt
  have hfin : Hid (∀ W : World, W.heap = (w.setCell ⟨p, 0, none⟩ (.slice (some ⟨b, off, none⟩) n cap)).heap → W.os = w.os → W.tape = w.tape → W.output = w.output → IsP W p (.slice (some ⟨b, off, none⟩) n cap) (L.take n) ∧ Wrote (home p (.slice (some ⟨b, off, none⟩) L.length cap)) w (home p (.slice (some ⟨b, off, none⟩) n cap)) W) := Lib.hid fun W hh ho ht hu => by
    have hob : b ≠ p := fun e => h0.off (by rw [e]; rfl)
    have w1 : Wrote (fun k => k = p) w (fun k => k = p) W := wrote_setCell hh ho ht hu rfl
    have hlt : (L.take n).length = n := by rw [List.length_take]; omega
    have r1 := (h0.row.take (k := n) (by omega)).wrote w1 (fun k hk e => hob (by rw [← e]; exact Option.some.inj hk))
    refine ⟨⟨?_, ?_, Nat.lt_of_lt_of_le hpl w1.size, ?_, fun e => hob (Option.some.inj e), fun x hx => h0.wf x (List.mem_of_mem_take hx), by rw [hlt]; have := h0.small; omega⟩, ⟨w1.os, w1.tape, w1.output, w1.size, fun k hk ho => w1.block k hk (fun e => ho (Or.inl e)), fun k hk => Or.inl hk⟩⟩
    · rw [World.cell?_of_block (w := w.setCell ⟨p, 0, none⟩ (.slice (some ⟨b, off, none⟩) n cap)) (by rw [hh])]
      exact World.cell?_setCell_same _ _ _ hp
    · rw [World.frozen?_of_block (w := w.setCell ⟨p, 0, none⟩ (.slice (some ⟨b, off, none⟩) n cap)) (by rw [hh]), World.frozen?_setCell]
      exact fp
    · rw [hlt]
      have : (fc L).take (n * 1) = fc (L.take n) := by unfold fc; rw [Nat.mul_one, List.map_take]
      rw [this] at r1
      exact r1
  generalize L.getD n 0 = x at *
  generalize hq : L.length = q at *
  subst hn
  generalize L.take n = M at *
  clear ha hc h h0 hq
  unfold maxLen at hm
  go_enter Tryd.func72, Tryd.ntmps72
  go_wp2_with fail
  go_ret
  exact ⟨rfl, _, hfin.out _ rfl rfl (by simp) rfl⟩
theorem len_p (h : IsP w p v L) (W : World) (hW : Below w.heap.size w W) : Calls Tryd.prog 69 #[v] W (Still (.int .i64 L.length) W) := len_any (h.row.below hW)
/-- What heap.Pop leaves: a heap of the others; the first one is told. -/
def Popped (w : World) (p : Nat) (v : Value) (L : List Nat) (e : Ending) (w' : World) : Prop := e = .returned (.iface 23 (.float .f64 (L.getD 0 0))) ∧ ∃ v' M, IsP w' p v' M ∧ Ok 0 Fk.ahead 0 M.length M ∧ (L.getD 0 0 :: M).Perm L ∧ Wrote (home p v) w (home p v') w'
set_option maxRecDepth 100000 in
set_option maxHeartbeats 4000000 in
theorem pop_any (h : IsP w p v L) (ho : Ok 0 Fk.ahead 0 L.length L) {n : Nat} (hn : L.length = n + 1) : Calls Tryd.prog 36 #[.iface 52 (.pointer (some ⟨p, 0, none⟩))] w (Popped w p v L) := by
  have hs := h.small
  have hc := h.cell
  have m0 := fun W (hW : World.cell? W ⟨p, 0, none⟩ = some v) => meth_len ⟨p, 0, none⟩ v W hW
  have m2 := fun W (hW : World.cell? W ⟨p, 0, none⟩ = some v) => meth_swap ⟨p, 0, none⟩ v W hW
  have m3 := fun W => meth_pop ⟨p, 0, none⟩ W
  have cl := len_p h
  rw [hn] at cl
  have cs := swap_p h (i := 0) (j := n) (by omega) (by omega)
  rw [hn] at ho
  obtain ⟨t1, t2, t3⟩ := top_swap ho hn
  have hd : Hid (∀ W, IsP W p v (swp 0 L 0 n) → Calls Tryd.prog 41 #[.iface 52 (.pointer (some ⟨p, 0, none⟩)), .int .i64 0, .int .i64 n] W fun e w' => ∃ (m : Bool) (ys : List Nat), e = .returned (.bool m) ∧ Hid (IsP w' p v ys) ∧ Hid (ys.length = n + 1) ∧ Hid (ys.getD n 0 = L.getD 0 0) ∧ Hid (Ok 0 Fk.ahead 0 n (ys.take n)) ∧ Hid ((L.getD 0 0 :: ys.take n).Perm L) ∧ Hid (Wrote (home p v) W (home p v) w')) := Lib.hid fun W hW => by
    refine (down_any hW (i0 := 0) t1 (Nat.le_refl 0) (by rw [swp_len]; omega) (by omega)).mono fun e w' ⟨m, ys, h1, h2, h3, h4⟩ => ?_
    obtain ⟨q1, q2, q3, q4⟩ := pop_end ho hn h2
    exact ⟨m, ys, h1, Lib.hid h3, Lib.hid q1, Lib.hid q2, Lib.hid q3, Lib.hid q4, Lib.hid h4⟩
  have hfin : Hid (∀ (ys : List Nat) (v' : Value) (w' : World), (ys.take n).length = n → IsP w' p v' (ys.take n) → Ok 0 Fk.ahead 0 n (ys.take n) → (L.getD 0 0 :: ys.take n).Perm L → Wrote (home p v) w (home p v') w' → Popped w p v L (.returned (.iface 23 (.float .f64 (L.getD 0 0)))) w') := Lib.hid fun ys v' w' h1 h2 h3 h4 h5 => ⟨rfl, v', ys.take n, h2, by rw [h1]; exact h3, h4, h5⟩
  have hlen : Hid (∀ ys : List Nat, ys.length = n + 1 → (ys.take n).length = n) := Lib.hid fun ys h => by rw [List.length_take]; omega
  generalize L.getD 0 0 = x at *
  have hnb : n ≤ 1000 := by omega
  clear t1 t2 t3 ho hs hn
  replace h := Lib.hid h
  go_enter Tryd.func36, Tryd.ntmps36
  go_wp2_with fail
  with_reducible refine Calls.mono (cl _ (by repeat (first | assumption | exact Below.refl _ _ | refine below_drewN ?_ _ | refine below_alloc ?_ _ | refine below_then ?_ (by assumption)))) ?_
  rintro e w2 ⟨rfl, rfl⟩
  clear cl m0
  go_wp2_with fail
  with_reducible refine Calls.mono (cs _ _ (by omega) (by omega) _ (by repeat (first | assumption | exact Below.refl _ _ | refine below_drewN ?_ _ | refine below_alloc ?_ _ | refine below_then ?_ (by assumption)))) ?_
  rintro e w2 ⟨rfl, hp2, hw2⟩
  clear cs m2 hc
  have cd := hd.out _ hp2.out
  go_wp2_with fail
  with_reducible refine Calls.mono (cd) ?_
  rintro e w3 ⟨m, ys, rfl, hp3, hl3, hx3, ho3, hpm, hw3⟩
  have cp := popm_any hp3.out hl3.out
  rw [hx3.out] at cp
  clear cd hd hx3
  go_wp2_with fail
  with_reducible refine Calls.mono (cp) ?_
  rintro e w4 ⟨rfl, v', hp4, hw4⟩
  have hq := Lib.hid (hfin.out ys v' w4 (hlen.out ys hl3.out) hp4 ho3.out hpm.out ((hw2.out.trans hw3.out).trans hw4))
  clear cp hfin hp4 hw4
  go_wp2_with fail
  go_ret
  exact hq.out
/-- What heap.Init leaves: a heap of the same ones. -/
def Inited (w : World) (p : Nat) (v : Value) (L : List Nat) (e : Ending) (w' : World) : Prop := e = .returned (.tuple #[]) ∧ ∃ M, IsP w' p v M ∧ Ok 0 Fk.ahead 0 M.length M ∧ M.Perm L ∧ Wrote (home p v) w (home p v) w'
set_option maxRecDepth 100000 in
set_option maxHeartbeats 4000000 in
theorem init_any (h : IsP w p v L) : Calls Tryd.prog 35 #[.iface 52 (.pointer (some ⟨p, 0, none⟩))] w (Inited w p v L) := by
  have hs := h.small
  have hc := h.cell
  have m0 := fun W (hW : World.cell? W ⟨p, 0, none⟩ = some v) => meth_len ⟨p, 0, none⟩ v W hW
  have cl := len_p h
  obtain ⟨n, hn⟩ : ∃ n, L.length = n := ⟨_, rfl⟩
  rw [hn] at cl
  have hquo : (n : Int).tdiv 2 = ((n / 2 : Nat) : Int) := by rw [Int.tdiv_eq_ediv_of_nonneg (by omega)]; omega
  obtain ⟨k0, hk0⟩ : ∃ k0, n / 2 = k0 := ⟨_, rfl⟩
  have st : Hid (Ok 0 Fk.ahead k0 n L) := Lib.hid (ok_one (by omega))
  have hk1 : k0 ≤ n := by omega
  have hnb : n ≤ 1000 := by omega
  rw [hk0] at hquo
  replace h := Lib.hid h
  replace hn := Lib.hid hn
  clear hs hk0
  go_enter Tryd.func35, Tryd.ntmps35
  go_wp2_with fail
  with_reducible refine Calls.mono (cl _ (by repeat (first | assumption | exact Below.refl _ _ | refine below_drewN ?_ _ | refine below_alloc ?_ _ | refine below_then ?_ (by assumption)))) ?_
  rintro e w2 ⟨rfl, rfl⟩
  clear cl m0 hc
  go_wp2_with fail
  clear hquo
  go_loopw [3] (fun u wr => ∃ (k : Nat) (ys : List Nat), u = .int .i64 ((k : Int) - 1) ∧ k ≤ n ∧ Hid (Ok 0 Fk.ahead k n ys) ∧ Hid (ys.Perm L) ∧ Hid (IsP wr p v ys) ∧ Hid (Wrote (home p v) w (home p v) wr)) (fun u _ => ((RowKit.intOf u) + 1).toNat)
  case atStart => exact ⟨k0, L, rfl, hk1, st, Lib.hid (.refl _), h, Lib.hid (Wrote.of_below (Below.refl _ _))⟩
  case round =>
    clear st h hk1
    obtain ⟨k, ys, rfl, hk, ho, hpm, hp, hw⟩ := hrel
    rcases k with _ | k
    · have hq : Hid (Inited w p v L (.returned (.tuple #[])) wr) := Lib.hid ⟨rfl, ys, hp.out, by rw [hpm.out.length_eq, hn.out]; exact ho.out, hpm.out, hw.out⟩
      clear ho hpm hp hw
      go_wp2_with fail
      go_end0
      exact hq.out
    · obtain ⟨t1, t2⟩ := hole_at ho.out
      have hd : Hid (∀ e w', Downs wr p v ys k n k e w' → ∃ (m : Bool) (zs : List Nat), e = .returned (.bool m) ∧ Hid (Ok 0 Fk.ahead k n zs) ∧ Hid (zs.Perm L) ∧ Hid (IsP w' p v zs) ∧ Hid (Wrote (home p v) w (home p v) w')) := Lib.hid fun e w' ⟨m, zs, h1, h2, h3, h4⟩ => ⟨m, zs, h1, Lib.hid (h2.ok t1 t2), Lib.hid (h2.perm.trans hpm.out), Lib.hid h3, Lib.hid (hw.out.trans h4)⟩
      have cd := down_any hp.out (i0 := k) t1 (Nat.le_refl k) (by rw [hpm.out.length_eq, hn.out]; exact Nat.le_refl n) (by omega)
      replace cd : Calls Tryd.prog 41 #[.iface 52 (.pointer (some ⟨p, 0, none⟩)), .int .i64 k, .int .i64 n] wr fun e w' => ∃ (m : Bool) (zs : List Nat), e = .returned (.bool m) ∧ Hid (Ok 0 Fk.ahead k n zs) ∧ Hid (zs.Perm L) ∧ Hid (IsP w' p v zs) ∧ Hid (Wrote (home p v) w (home p v) w') := cd.mono hd.out
      clear t1 t2 hd ho hpm hp hw
      have ek : ((k + 1 : Nat) : Int) - 1 = (k : Int) := by omega
      simp only [ek]
      go_wp2_with fail
      with_reducible refine Calls.mono (cd) ?_
      rintro e w3 ⟨m, zs, rfl, ho, hpm, hp, hw⟩
      clear cd
      go_wp2_with fail
      go_roundw
      case rel => exact ⟨k, zs, by go_num, by omega, ho, hpm, hp, hw⟩
      case measure => simp [RowKit.intOf]
end Pr
end Go.Proofs.YtinlbenifmcgaaaDoor
