/- The document's own ring: a row is stolen. -/
import Derived.Test.YtpclacaiabbmjaaRefRing2
namespace Go.Proofs.Ytpclacaiabbmjaa
open Go.RowKit Go.Lib Fx Ho Ri Rw Qu
set_option linter.unusedVariables false
namespace Rr
variable {S : Home} {w w' : World} {p q : Nat} {nv lv mv kv : Value} {nx ny : Option Int} {L M : List Int} {H H' : Home}
set_option maxRecDepth 100000 in
set_option maxHeartbeats 2000000 in
theorem rsteal_row {K : Nat} (hpq : p ≠ q) (hl : L.length ≤ 256) (hM : 0 < M.length) (hM2 : M.length ≤ 256) (hK : K = min (M.length - M.length / 2) (256 - L.length)) (h : IsR S w p nv lv nx L) (h2 : IsR S w q mv kv ny M) (hp : ¬ S p) (hq : ¬ S q) (hS : ∀ k, w.heap.size ≤ k → S k) : Calls Try.prog 69 #[.pointer (some ⟨p, 0, none⟩), .pointer (some ⟨q, 0, none⟩)] w (Stole S (.int .i64 K) w p q nx (L ++ M.take K) ny (M.drop K)) := by
  have he := req_other hpq h h2
  have c1 := h.c1
  have d1 := h2.c1
  have hplt := h.lt
  have hqlt := h2.lt
  have hcap := h2.cap
  obtain ⟨s1, k1, e1⟩ := ints_slice h.lr
  obtain ⟨t1, j1, g1⟩ := ints_slice h2.lr
  have hcj := hcap _ _ _ g1
  have hKM : K ≤ M.length := by omega
  have hsrc : Hid (∀ W, Below w.heap.size w W → Src Try.prog 1 41 lv L.length (cells L) W) := Lib.hid fun W hb => src_of_ints (h.lr.below hb)
  have hsrcM : Hid (∀ W, Below w.heap.size w W → Src Try.prog 1 41 (.slice t1 K j1) (M.take K).length (cells (M.take K)) W) := Lib.hid fun W hb => src_of_ints ((ints_take (by rw [← g1]; exact h2.lr) rfl hKM).below hb)
  have hfin : Hid (∀ (W : World) (v : Value), Below w.heap.size w W → Low w.heap.size (fun k => v.ownBlock = some k) → OffRow W v (L ++ M.take K) → (∃ s n c, v = .slice s n c) ∧ W.cell? ⟨p, 1, none⟩ = some lv ∧ W.frozen? ⟨p, 1, none⟩ = false ∧ Hid (∀ W1, W1 = W.setCell ⟨p, 1, none⟩ v → W1.cell? ⟨q, 1, none⟩ = some kv ∧ W1.frozen? ⟨q, 1, none⟩ = false ∧ Hid (∀ a1, (a1 = t1.map (·.add K) ∨ j1 = K ∧ a1 = t1) → Stole S (.int .i64 K) w p q nx (L ++ M.take K) ny (M.drop K) (.returned (.int .i64 K)) (W1.setCell ⟨q, 1, none⟩ (.slice a1 (M.length - K) (j1 - K)))))) := Lib.hid fun W v hb hlow hr => by
    obtain ⟨s, c, e⟩ := hr.slice
    have h1 := h.below hb
    obtain ⟨m1, m2⟩ := h.setL hp hb (ints_made hr hlow hS) (off_cap hr)
    have h3 := h2.wrote m1 (fun e => hpq e.symm) (fun k hk e => hp (e ▸ hk))
    refine ⟨⟨s, _, c, e⟩, h1.c1, h1.fz 1, Lib.hid fun W1 e1 => ?_⟩
    subst e1
    refine ⟨h3.c1, h3.fz 1, Lib.hid fun a1 ha => ?_⟩
    obtain ⟨n1, n2⟩ := h3.setL hq (Below.refl _ _) (v1 := .slice a1 (M.length - K) (j1 - K)) (L' := M.drop K) (ints_drop (by rw [← g1]; exact h3.lr) rfl hKM ha hcj) (fun s n c e => by cases e; omega)
    exact ⟨_, _, _, _, rfl, (wrote_l m1).trans (wrote_r n1), m2.wrote n1 (fun e => hpq e) (fun k hk e => hq (e ▸ hk)), n2⟩
  have hbA : ([] : List Int).length + L.length ≤ 1000000 := by simp; omega
  have hbB : L.length + (M.take K).length ≤ 1000000 := by rw [List.length_take]; omega
  have hmin : ∀ (ts : Array TypeId) (t : TypeId) (W : World), (Builtin.min_ ts t #[.int .i64 ((M.length : Int) - (M.length : Int) / 2), .int .i64 (256 - (L.length : Int))]).run Try.prog W = .ok (.int .i64 (K : Int)) W := fun ts t W => by
    rw [run_min_int2]
    congr 2
    split <;> omega
  have hK0 : (0 : Int) ≤ (K : Int) := by omega
  have hKj : (K : Int) ≤ (j1 : Int) := by omega
  have hKm : (K : Int) ≤ (M.length : Int) := by omega
  have hm0 : ((M.length : Int) == 0) = false := by rw [beq_eq_false_iff_ne]; omega
  have hm1 : (0 : Int) ≤ (M.length : Int) := by omega
  have hm2 : (M.length : Int) ≤ 256 := by omega
  have hl1 : (0 : Int) ≤ (L.length : Int) := by omega
  have hl2 : (L.length : Int) ≤ 256 := by omega
  rw [e1] at c1 hsrc hfin
  rw [g1] at d1 hfin
  replace hM := Lib.hid hM
  clear h h2 e1 g1 hl hM2 hK hcap hcj hKM
  generalize M.length = m at *
  by_cases hjk : j1 = K
  · subst hjk
    go_enter Try.func69, Try.ntmps69
    go_wp2_with fail
    go_region_law (first
      | (refine step_append_off rfl (.tmp 72) (.tmp 78) rfl rfl (off_below hrA.out (by (repeat (first | exact Below.refl _ _ | refine below_alloc ?_ _ | refine below_drewN ?_ _ | refine Below.drew ?_)))) rfl rfl (hsrcM.out _ (by (repeat (first | exact hBA.out | exact Below.refl _ _ | refine below_alloc ?_ _ | refine below_drewN ?_ _ | refine Below.drew ?_)))) hbB ?_; intro v9 w9 g3 g4; have hl9 := g4.low hlA.out (Below.size (w := w) (by (repeat (first | exact hBA.out | exact Below.refl _ _ | refine below_alloc ?_ _ | refine below_drewN ?_ _ | refine Below.drew ?_)))); have hB9 := g4.below hlA.out (by (repeat (first | exact hBA.out | exact Below.refl _ _ | refine below_alloc ?_ _ | refine below_drewN ?_ _ | refine Below.drew ?_))); have hk9 := hfin.out w9 v9 hB9 hl9 g3; obtain ⟨⟨s9, n9, c9, rfl⟩, f1, f2, hgo⟩ := hk9; clear g3 g4 hl9 hB9 hrA hlA hBA hfin)
      | (refine step_append_off rfl (.tmp 67) (.tmp 71) rfl rfl (lit_off (by first | exact lt_new _ _ | exact lt_new1 (by exact size_new w _) | exact Nat.lt_trans (lt_new _ _) (lt_new _ _))) rfl rfl (hsrc.out _ (by (repeat (first | exact Below.refl _ _ | refine below_alloc ?_ _ | refine below_drewN ?_ _ | refine Below.drew ?_)))) hbA ?_; intro vA wA g1 g2; have hk := off_one (wq := w) (by (repeat (first | exact Below.refl _ _ | refine below_alloc ?_ _ | refine below_drewN ?_ _ | refine Below.drew ?_))) (by first | exact Nat.le_refl _ | exact Nat.le_succ _ | exact Below.size (w := w) (by (repeat (first | exact Below.refl _ _ | refine below_alloc ?_ _ | refine below_drewN ?_ _ | refine Below.drew ?_)))) g1 g2; have hrA := Lib.hid hk.1; have hlA := Lib.hid hk.2.1; have hBA := Lib.hid hk.2.2.1; have fA1 := cell_then hBA.out c1; have fA2 := cell_then hBA.out d1; clear hk g1 g2))
    all_goals
      obtain ⟨f3, f4, hgo2⟩ := hgo.out _ rfl
      clear hgo
      go_wp2_with fail
      go_ret
      have hE := hgo2.out _ (.inr ⟨trivial, rfl⟩)
      rw [Nat.sub_self] at hE
      exact hE
  · have hjk2 : ¬ K = j1 := fun e => hjk e.symm
    go_enter Try.func69, Try.ntmps69
    go_wp2_with fail
    go_region_law (first
      | (refine step_append_off rfl (.tmp 72) (.tmp 78) rfl rfl (off_below hrA.out (by (repeat (first | exact Below.refl _ _ | refine below_alloc ?_ _ | refine below_drewN ?_ _ | refine Below.drew ?_)))) rfl rfl (hsrcM.out _ (by (repeat (first | exact hBA.out | exact Below.refl _ _ | refine below_alloc ?_ _ | refine below_drewN ?_ _ | refine Below.drew ?_)))) hbB ?_; intro v9 w9 g3 g4; have hl9 := g4.low hlA.out (Below.size (w := w) (by (repeat (first | exact hBA.out | exact Below.refl _ _ | refine below_alloc ?_ _ | refine below_drewN ?_ _ | refine Below.drew ?_)))); have hB9 := g4.below hlA.out (by (repeat (first | exact hBA.out | exact Below.refl _ _ | refine below_alloc ?_ _ | refine below_drewN ?_ _ | refine Below.drew ?_))); have hk9 := hfin.out w9 v9 hB9 hl9 g3; obtain ⟨⟨s9, n9, c9, rfl⟩, f1, f2, hgo⟩ := hk9; clear g3 g4 hl9 hB9 hrA hlA hBA hfin)
      | (refine step_append_off rfl (.tmp 67) (.tmp 71) rfl rfl (lit_off (by first | exact lt_new _ _ | exact lt_new1 (by exact size_new w _) | exact Nat.lt_trans (lt_new _ _) (lt_new _ _))) rfl rfl (hsrc.out _ (by (repeat (first | exact Below.refl _ _ | refine below_alloc ?_ _ | refine below_drewN ?_ _ | refine Below.drew ?_)))) hbA ?_; intro vA wA g1 g2; have hk := off_one (wq := w) (by (repeat (first | exact Below.refl _ _ | refine below_alloc ?_ _ | refine below_drewN ?_ _ | refine Below.drew ?_))) (by first | exact Nat.le_refl _ | exact Nat.le_succ _ | exact Below.size (w := w) (by (repeat (first | exact Below.refl _ _ | refine below_alloc ?_ _ | refine below_drewN ?_ _ | refine Below.drew ?_)))) g1 g2; have hrA := Lib.hid hk.1; have hlA := Lib.hid hk.2.1; have hBA := Lib.hid hk.2.2.1; have fA1 := cell_then hBA.out c1; have fA2 := cell_then hBA.out d1; clear hk g1 g2))
    all_goals
      obtain ⟨f3, f4, hgo2⟩ := hgo.out _ rfl
      clear hgo
      go_wp2_with fail
      go_ret
      exact hgo2.out _ (.inl rfl)
end Rr
end Go.Proofs.Ytpclacaiabbmjaa
