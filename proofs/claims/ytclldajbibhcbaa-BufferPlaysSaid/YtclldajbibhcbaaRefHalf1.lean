/- Half of the document's own buffer, where it goes over: the row is full where it is cut. -/
import Derived.Test.YtclldajbibhcbaaRefHalf0
import Derived.Deep.Cut
import Derived.Deep.CutBlock
import Derived.Deep.CutRange
namespace Go.Proofs.Ytclldajbibhcbaa
open Go.RowKit Go.Lib Fx Ho Rw Qu
set_option linter.unusedVariables false
namespace Rb
variable {S : Home} {w w' : World} {p q : Nat} {v u : Value} {L M : List Int} {H H' : Home}
set_option maxRecDepth 100000 in
set_option maxHeartbeats 12000000 in
theorem half_ok1 {n k k1 : Nat} {s1 : Option Addr} (e1 : v = .slice s1 L.length k1) (hk1 : k1 = k) (hn : L.length / 2 = n) (hk : L.length = k + n) (hroom : n + M.length ≤ 32) (hs : L.length ≤ 32) (hpq : p ≠ q) (h : IsB S w p v L) (h2 : IsB S w q u M) (hp : ¬ S p) (hq : ¬ S q) (hS : ∀ k, w.heap.size ≤ k → S k) : Calls Try.prog 72 #[.pointer (some ⟨p, 0, none⟩), .pointer (some ⟨q, 0, none⟩)] w (Both S (.int .i64 n) w p q (L.take k) (M ++ L.drop k)) := by
  have he := req_other hpq h h2
  have c0 := h.c0
  have d0 := h2.c0
  have hplt := h.lt
  have hqlt := h2.lt
  have hc1 := h.cap _ _ _ e1
  replace hk1 := Lib.hid hk1
  obtain ⟨s2, k2, e2, hc2⟩ := h2.slice
  obtain ⟨l, hl⟩ : ∃ l, L.length = l := ⟨_, rfl⟩
  obtain ⟨m, hm⟩ : ∃ m, M.length = m := ⟨_, rfl⟩
  rw [hl] at e1 hc1 hn hk hs
  rw [hm] at e2 hc2 hroom
  have hsrcM : Hid (∀ W, Below w.heap.size w W → Src Try.prog 1 26 u M.length (cells M) W) := Lib.hid fun W hb => src_of_ints (h2.row.below hb)
  have hsrcD : Hid (∀ W a1, (a1 = s1.map (·.add k) ∨ k1 = k ∧ a1 = s1) → Below w.heap.size w W → Src Try.prog 1 26 (.slice a1 (l - k) (k1 - k)) (L.drop k).length (cells (L.drop k)) W) := Lib.hid fun W a1 ha hb => src_of_ints ((ints_drop (by rw [← e1]; exact h.row) hl (by omega) ha hc1).below hb)
  have hfin : Hid (∀ (W : World) (v1 : Value), Below w.heap.size w W → Low w.heap.size (fun k => v1.ownBlock = some k) → OffRow W v1 (M ++ L.drop k) → (∃ s n c, v1 = .slice s n c) ∧ W.cell? ⟨q, 0, none⟩ = some u ∧ W.frozen? ⟨q, 0, none⟩ = false ∧ Hid (∀ W1, W1 = W.setCell ⟨q, 0, none⟩ v1 → W1.cell? ⟨p, 0, none⟩ = some v ∧ W1.frozen? ⟨p, 0, none⟩ = false ∧ Hid (∀ W2 : World, W2.heap = (W1.setCell ⟨p, 0, none⟩ (.slice s1 k k1)).heap → W2.os = W1.os → W2.tape = W1.tape → W2.output = W1.output → Both S (.int .i64 n) w p q (L.take k) (M ++ L.drop k) (.returned (.int .i64 n)) W2))) := Lib.hid fun W v1 hb hlow hr => by
    obtain ⟨s, c, e⟩ := hr.slice
    have h1 := h2.below hb
    obtain ⟨m1, m2⟩ := h2.lay hq hb (ints_made hr hlow hS) (off_cap hr)
    have h3 := h.wrote m1 (fun e => hpq e) (fun k hk e => hq (e ▸ hk))
    refine ⟨⟨s, _, c, e⟩, h1.c0, h1.fz, Lib.hid fun W1 e3 => ?_⟩
    subst e3
    refine ⟨h3.c0, h3.fz, Lib.hid fun W2 g1 g2 g3 g4 => ?_⟩
    obtain ⟨n1, n2⟩ := h3.lay hp (Below.refl _ _) (v1 := .slice s1 k k1) (L' := L.take k) (ints_take (by rw [← e1]; exact h3.row) hl (by omega)) (fun s n c e => by cases e; omega)
    have hbW : Below ((W.setCell ⟨q, 0, none⟩ v1).setCell ⟨p, 0, none⟩ (.slice s1 k k1)).heap.size ((W.setCell ⟨q, 0, none⟩ v1).setCell ⟨p, 0, none⟩ (.slice s1 k k1)) W2 := ⟨g2, g3, g4, by rw [g1]; exact Nat.le_refl _, fun k _ => by rw [g1]⟩
    exact ⟨_, _, rfl, ((wrote_r m1).trans (wrote_l n1)).trans (Wrote.of_below hbW), n2.below hbW, (m2.wrote n1 (fun e => hpq e.symm) (fun k hk e => hp (e ▸ hk))).below hbW⟩
  have hbA : ([] : List Int).length + M.length ≤ 1000000 := by simp; omega
  have hbB : M.length + (L.drop k).length ≤ 1000000 := by rw [List.length_drop]; omega
  have x1 : (l : Int) / 2 = (n : Int) := by omega
  have x2 : ¬ 32 - (m : Int) < (n : Int) := by omega
  have x3 : (l : Int) - (n : Int) = (k : Int) := by omega
  have x9 : IntKind.i64.wrap ((l : Int) - (n : Int)) = (k : Int) := by rw [IntKind.wrap_i64]; omega
  have l0 : (0 : Int) ≤ (l : Int) := by omega
  have l1 : (l : Int) ≤ 32 := by omega
  have m0 : (0 : Int) ≤ (m : Int) := by omega
  have m1 : (m : Int) ≤ 32 := by omega
  have y0 : (0 : Int) ≤ (k : Int) := by omega
  have x8 : IntKind.i64.wrap (k : Int) = (k : Int) := by rw [IntKind.wrap_i64]; omega
  have y5 : (k : Int) ≤ 32 := by omega
  have y1 : (k : Int) ≤ (l : Int) := by omega
  have y2 : (k : Int) ≤ (k1 : Int) := by omega
  have y3 : l ≤ k1 := hc1
  rw [e1] at c0 hfin
  rw [e2] at d0 hsrcM hfin
  replace hn := Lib.hid hn
  replace hk := Lib.hid hk
  clear h h2 e1 e2 hc2 hroom hs hc1
  replace hl := Lib.hid hl
  replace hm := Lib.hid hm
  have hlk0 : k ≤ k1 := by omega
  replace hlk0 := Lib.hid hlk0
  obtain ⟨a1, hk0, hsrcE⟩ : ∃ a1, (k1 = k ∧ a1 = s1 ∨ ¬ k1 = k ∧ a1 = s1.map (·.add k)) ∧ Hid (∀ W, Below w.heap.size w W → Src Try.prog 1 26 (.slice a1 (l - k) (k1 - k)) (L.drop k).length (cells (L.drop k)) W) := by
    by_cases hjk : k1 = k
    · exact ⟨s1, .inl ⟨hjk, rfl⟩, Lib.hid fun W hb => hsrcD.out W _ (.inr ⟨hjk, rfl⟩) hb⟩
    · exact ⟨_, .inr ⟨hjk, rfl⟩, Lib.hid fun W hb => hsrcD.out W _ (.inl rfl) hb⟩
  clear hsrcD
  rcases hk0 with ⟨hjk, rfl⟩ | ⟨hjk, rfl⟩
  rotate_left
  · exact absurd hk1.out hjk
  have hjk3 := hjk.symm
  clear hjk
  subst hjk3
  rw [Nat.sub_self, Nat.sub_eq_zero_of_le y3] at hsrcE
  all_goals
    go_enter Try.func72, Try.ntmps72
    go_upto_region 4 with fail
    go_cut [5] from 25 to 46 (fun s5 wx => s5 = .int .i64 n ∧ ∃ s0 cc, Hid (k ≤ cc) ∧ wx.cell? ⟨p, 0, none⟩ = some (.slice s0 l cc) ∧ wx.frozen? ⟨p, 0, none⟩ = false ∧ Hid (∀ W2 : World, W2.heap = (wx.setCell ⟨p, 0, none⟩ (.slice s0 k cc)).heap → W2.os = wx.os → W2.tape = wx.tape → W2.output = wx.output → Both S (.int .i64 n) w p q (L.take k) (M ++ L.drop k) (.returned (.int .i64 n)) W2))
    case first =>
      go_wp2_with fail
      go_region_law (first
        | (refine step_append_off rfl (.tmp 31) (.tmp 43) rfl rfl (off_below hrA.out (by (repeat (first | exact Below.refl _ _ | refine below_alloc ?_ _ | refine below_drewN ?_ _ | refine Below.drew ?_)))) rfl rfl (hsrcE.out _ (by (repeat (first | exact hBA.out | exact Below.refl _ _ | refine below_alloc ?_ _ | refine below_drewN ?_ _ | refine Below.drew ?_)))) hbB ?_; intro v9 w9 g3 g4; have hl9 := g4.low hlA.out (Below.size (w := w) (by (repeat (first | exact hBA.out | exact Below.refl _ _ | refine below_alloc ?_ _ | refine below_drewN ?_ _ | refine Below.drew ?_)))); have hB9 := g4.below hlA.out (by (repeat (first | exact hBA.out | exact Below.refl _ _ | refine below_alloc ?_ _ | refine below_drewN ?_ _ | refine Below.drew ?_))); have hk9 := hfin.out w9 v9 hB9 hl9 g3; obtain ⟨⟨s9, n9, c9, rfl⟩, f1, f2, hgo⟩ := hk9; clear g3 g4 hl9 hB9 hrA hlA hBA hfin)
        | (refine step_append_off rfl (.tmp 26) (.tmp 30) rfl rfl (lit_off (by first | exact lt_new _ _ | exact lt_new1 (by exact size_new w _) | exact Nat.lt_trans (lt_new _ _) (lt_new _ _))) rfl rfl (hsrcM.out _ (by (repeat (first | exact Below.refl _ _ | refine below_alloc ?_ _ | refine below_drewN ?_ _ | refine Below.drew ?_)))) hbA ?_; intro vA wA g1 g2; have hk := off_one (wq := w) (by (repeat (first | exact Below.refl _ _ | refine below_alloc ?_ _ | refine below_drewN ?_ _ | refine Below.drew ?_))) (by first | exact Nat.le_refl _ | exact Nat.le_succ _ | exact Below.size (w := w) (by (repeat (first | exact Below.refl _ _ | refine below_alloc ?_ _ | refine below_drewN ?_ _ | refine Below.drew ?_)))) g1 g2; have hrA := Lib.hid hk.1; have hlA := Lib.hid hk.2.1; have hBA := Lib.hid hk.2.2.1; have fA1 := cell_then hBA.out c0; have fA2 := cell_then hBA.out d0; clear hk g1 g2))
      all_goals
        have hgo2 := hgo.out _ rfl
        clear hgo
        go_wp2_with fail
        go_meet
        exact ⟨rfl, _, _, hlk0, hgo2⟩
    case rest =>
      obtain ⟨rfl, s0, cc, hcc, f3, f4, hgo2⟩ := hcut
      clear c0 d0 hsrcM hsrcE hfin
      have y9 : (k : Int) ≤ (cc : Int) := by have := hcc.out; omega
      go_wp2_with fail
      go_still_tail 13, (by kernel_rfl)
      all_goals
        go_wp2_with fail
        go_ret
        exact hgo2.out _ rfl rfl rfl rfl
end Rb
end Go.Proofs.Ytclldajbibhcbaa
