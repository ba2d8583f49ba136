/- The document's own ring: who is next is stolen. -/
import Derived.Test.YtpclacaiabbmjaaRefRing2
namespace Go.Proofs.Ytpclacaiabbmjaa
open Go.RowKit Go.Lib Fx Ho Ri Rw Qu
set_option linter.unusedVariables false
namespace Rr
variable {S : Home} {w w' : World} {p q : Nat} {nv lv mv kv : Value} {nx ny : Option Int} {L M : List Int} {H H' : Home}
set_option maxRecDepth 100000 in
set_option maxHeartbeats 2000000 in
theorem rsteal_next {y : Int} (hpq : p ≠ q) (hl : L.length < 256) (h : IsR S w p nv lv nx L) (h2 : IsR S w q mv kv (some y) []) (hp : ¬ S p) (hq : ¬ S q) (hS : ∀ k, w.heap.size ≤ k → S k) : Calls Try.prog 69 #[.pointer (some ⟨p, 0, none⟩), .pointer (some ⟨q, 0, none⟩)] w (Stole S (.int .i64 1) w p q nx (L ++ [y]) none []) := by
  have he := req_other hpq h h2
  have c1 := h.c1
  have d0 := h2.c0
  have d1 := h2.c1
  have hplt := h.lt
  have hqlt := h2.lt
  obtain ⟨s1, k1, e1⟩ := ints_slice h.lr
  obtain ⟨t1, j1, g1⟩ := ints_slice h2.lr
  obtain ⟨t0, j0, g0, _, hcc⟩ := h2.nr
  obtain ⟨bo, oo, rfl, _, hbl, hcell⟩ := hcc 0 (by simp)
  have hcell : w.cell? ⟨bo, oo, none⟩ = some (.int .i64 y) := hcell
  simp only [Option.toList_some, List.length_singleton] at g0
  have hsrc : Hid (∀ W, Below w.heap.size w W → Src Try.prog 1 41 lv L.length (cells L) W) := Lib.hid fun W hb => src_of_ints (h.lr.below hb)
  have hfin : Hid (∀ (W : World) (v : Value), Below w.heap.size w W → Low w.heap.size (fun k => v.ownBlock = some k) → OffRow W v (L ++ [y]) → (∃ s n c, v = .slice s n c) ∧ W.cell? ⟨p, 1, none⟩ = some lv ∧ W.frozen? ⟨p, 1, none⟩ = false ∧ Hid (∀ W1, W1 = W.setCell ⟨p, 1, none⟩ v → W1.cell? ⟨q, 0, none⟩ = some mv ∧ W1.frozen? ⟨q, 0, none⟩ = false ∧ Hid (Stole S (.int .i64 1) w p q nx (L ++ [y]) none [] (.returned (.int .i64 1)) (W1.setCell ⟨q, 0, none⟩ (.slice none 0 0))))) := Lib.hid fun W v hb hlow hr => by
    obtain ⟨s, c, e⟩ := hr.slice
    have h1 := h.below hb
    obtain ⟨m1, m2⟩ := h.setL hp hb (ints_made hr hlow hS) (off_cap hr)
    have h3 := h2.wrote m1 (fun e => hpq e.symm) (fun k hk e => hp (e ▸ hk))
    obtain ⟨n1, n2⟩ := h3.setN hq (Below.refl _ _) (nx' := none) (v1 := .slice none 0 0) (ints_nil _ _)
    refine ⟨⟨s, _, c, e⟩, h1.c1, h1.fz 1, Lib.hid fun W1 e1 => ?_⟩
    subst e1
    exact ⟨h3.c0, h3.fz 0, Lib.hid ⟨_, _, _, _, rfl, (wrote_l m1).trans (wrote_r n1), m2.wrote n1 (fun e => hpq e) (fun k hk e => hq (e ▸ hk)), n2⟩⟩
  have hbA : ([] : List Int).length + L.length ≤ 1000000 := by simp; omega
  have hb1 : L.length + [y].length ≤ 1000000 := by simp; omega
  have hlt : (L.length : Int) < 256 := by omega
  rw [e1] at c1 hsrc hfin
  subst g0 g1
  simp only [List.length_nil] at d1
  clear h h2 e1 hcc hl
  go_enter Try.func69, Try.ntmps69
  go_wp2_with fail
  go_region_law (first
      | (refine step_append_off rfl (.tmp 41) (.tmp 48) rfl rfl (off_below hr7.out (by (repeat (first | exact Below.refl _ _ | refine below_alloc ?_ _ | refine below_drewN ?_ _ | refine Below.drew ?_)))) rfl rfl (src1_at (x := y) (by first | exact hjb.out | exact heap_alloc_new w7 _)) hb1 ?_; intro v8 w8 g3 g4; have hl8 := g4.low hl7.out (Below.size (w := w) (by (repeat (first | exact hB7.out | exact Below.refl _ _ | refine below_alloc ?_ _ | refine below_drewN ?_ _ | refine Below.drew ?_)))); have hB8 := g4.below hl7.out (by (repeat (first | exact hB7.out | exact Below.refl _ _ | refine below_alloc ?_ _ | refine below_drewN ?_ _ | refine Below.drew ?_))); have hk9 := hfin.out w8 v8 hB8 hl8 g3; obtain ⟨⟨s9, n9, c9, rfl⟩, f1, f2, hgo⟩ := hk9; clear g3 g4 hl8 hB8 hr7 hl7 hB7 hk3 hfin)
      | (refine step_append_off rfl (.tmp 36) (.tmp 40) rfl rfl (lit_off (by first | exact lt_new _ _ | exact lt_new1 (by exact size_new w _) | exact Nat.lt_trans (lt_new _ _) (lt_new _ _))) rfl rfl (hsrc.out _ (by (repeat (first | exact Below.refl _ _ | refine below_alloc ?_ _ | refine below_drewN ?_ _ | refine Below.drew ?_)))) hbA ?_; intro v7 w7 g1 g2; have hk := off_one (wq := w) (by (repeat (first | exact Below.refl _ _ | refine below_alloc ?_ _ | refine below_drewN ?_ _ | refine Below.drew ?_))) (by first | exact Nat.le_refl _ | exact Nat.le_succ _ | exact Below.size (w := w) (by (repeat (first | exact Below.refl _ _ | refine below_alloc ?_ _ | refine below_drewN ?_ _ | refine Below.drew ?_)))) g1 g2; have hr7 := Lib.hid hk.1; have hl7 := Lib.hid hk.2.1; have hB7 := Lib.hid hk.2.2.1; have hk3 := Lib.hid hk.2.2.2; have fA0 := cell_then hB7.out d0; have fA1 := cell_then hB7.out c1; have fA2 := cell_then hB7.out hcell; clear hk g1 g2; try (first
          | (have hjb : Hid (w7.heap[w.heap.size + 1]? = some (.cells #[.int .i64 y] 3 (0, 0))) := Lib.hid (hk3.out (w.heap.size + 1) _ (Nat.succ_ne_self _) (heap_new1 (w := w) (by exact size_new w _))))
          | (have hjb : Hid (w7.heap[w.heap.size]? = some (.cells #[.int .i64 y] 3 (0, 0))) := Lib.hid (hk3.out w.heap.size _ (Nat.succ_ne_self _).symm (old_new (w := w) (C := #[.int .i64 y]) (t := 3) (by (repeat (first | exact Below.refl _ _ | refine below_alloc ?_ _ | refine below_drewN ?_ _ | refine Below.drew ?_)))))))))
  all_goals
    obtain ⟨f3, f4, hgo2⟩ := hgo.out _ rfl
    go_wp2_with fail
    go_ret
    exact hgo2.out
end Rr
end Go.Proofs.Ytpclacaiabbmjaa
