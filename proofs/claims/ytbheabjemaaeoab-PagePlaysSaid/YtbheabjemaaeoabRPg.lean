/- The document's own Pages: which are free, as a list; what its calls answer and make. -/
import Derived.Test.YtbheabjemaaeoabPageApM
namespace Go.Proofs.Ytbheabjemaaeoab
open Go.RowKit Go.Lib Fx Ho Gr Go.Sort
set_option linter.unusedVariables false
namespace Pg
variable {W0 w w1 w' W : World} {P X Y B R b n c i j k q K a N p t s D : Nat} {v v1 : Value} {H H' : Home} {F G : List Bool} {d : Array Pr2} {A A' L : List (Nat × Nat)} {r : Nat × Nat}
/-- The runs of the pages below j. -/
structure Rt (F : List Bool) (j : Nat) (L : List (Nat × Nat)) : Prop where
  up : L.Pairwise (fun r s => r.1 + r.2 < s.1)
  ok : ∀ r, r ∈ L → 1 ≤ r.1 ∧ 1 ≤ r.2 ∧ r.1 + r.2 ≤ j ∧ (∀ i, r.1 ≤ i → i < r.1 + r.2 → F.getD i false = true) ∧ F.getD (r.1 - 1) false = false ∧ (r.1 + r.2 < j → F.getD (r.1 + r.2) false = false)
  all : ∀ i, i < j → F.getD i false = true → ∃ r, r ∈ L ∧ r.1 ≤ i ∧ i < r.1 + r.2
  last : 1 ≤ j → F.getD (j - 1) false = true → ∃ M a K, L = M ++ [(a, K)] ∧ a + K = j
theorem rt_nil (F : List Bool) : Rt F 0 [] := ⟨List.Pairwise.nil, fun r h => (by cases h), fun i h => (by omega), fun h => (by omega)⟩
theorem rt_skip (h : Rt F j L) (hf : F.getD j false = false) : Rt F (j + 1) L := by
  refine ⟨h.up, fun r hr => ?_, fun i hi hF => ?_, fun _ hF => ?_⟩
  · obtain ⟨h1, h2, h3, h4, h5, h6⟩ := h.ok r hr
    refine ⟨h1, h2, by omega, h4, h5, fun h7 => ?_⟩
    rcases Nat.lt_or_ge (r.1 + r.2) j with q | q
    · exact h6 q
    · rw [show r.1 + r.2 = j by omega]; exact hf
  · refine h.all i ?_ hF
    rcases Nat.lt_or_ge i j with q | q
    · exact q
    · rw [show i = j by omega, hf] at hF; cases hF
  · rw [show j + 1 - 1 = j by omega, hf] at hF; cases hF
theorem rt_bump {M : List (Nat × Nat)} (h : Rt F j (M ++ [(a, K)])) (hj : a + K = j) (hf : F.getD j false = true) : Rt F (j + 1) (M ++ [(a, K + 1)]) := by
  obtain ⟨u1, u2, u3⟩ := List.pairwise_append.1 h.up
  obtain ⟨k1, k2, k3, k4, k5, k6⟩ := h.ok (a, K) (List.mem_append_right _ (List.mem_singleton.2 rfl))
  refine ⟨List.pairwise_append.2 ⟨u1, List.pairwise_singleton _ _, fun r hr s hs => ?_⟩, fun r hr => ?_, fun i hi hF => ?_, fun _ _ => ⟨M, a, K + 1, rfl, by omega⟩⟩
  · obtain rfl := List.mem_singleton.1 hs
    exact u3 r hr (a, K) (List.mem_singleton.2 rfl)
  · rcases List.mem_append.1 hr with hr | hr
    · obtain ⟨h1, h2, h3, h4, h5, h6⟩ := h.ok r (List.mem_append_left _ hr)
      have h7 := u3 r hr (a, K) (List.mem_singleton.2 rfl)
      simp only at h7
      exact ⟨h1, h2, by omega, h4, h5, fun _ => h6 (by omega)⟩
    · obtain rfl := List.mem_singleton.1 hr
      simp only at *
      refine ⟨k1, by omega, by omega, fun i h1 h2 => ?_, k5, fun _ => by omega⟩
      rcases Nat.lt_or_ge i (a + K) with q | q
      · exact k4 i h1 q
      · rw [show i = j by omega]; exact hf
  · rcases Nat.lt_or_ge i j with q | q
    · obtain ⟨r, hr, h1, h2⟩ := h.all i q hF
      rcases List.mem_append.1 hr with hr | hr
      · exact ⟨r, List.mem_append_left _ hr, h1, h2⟩
      · obtain rfl := List.mem_singleton.1 hr
        exact ⟨(a, K + 1), List.mem_append_right _ (List.mem_singleton.2 rfl), h1, by simp only at h2 ⊢; omega⟩
    · exact ⟨(a, K + 1), List.mem_append_right _ (List.mem_singleton.2 rfl), by simp only; omega, by simp only; omega⟩
theorem rt_new (h : Rt F j L) (h1 : 1 ≤ j) (hp : F.getD (j - 1) false = false) (hf : F.getD j false = true) : Rt F (j + 1) (L ++ [(j, 1)]) := by
  have hlt : ∀ r, r ∈ L → r.1 + r.2 < j := fun r hr => by
    obtain ⟨h1, h2, h3, h4, h5, h6⟩ := h.ok r hr
    rcases Nat.lt_or_ge (r.1 + r.2) j with q | q
    · exact q
    · rw [h4 (j - 1) (by omega) (by omega)] at hp; cases hp
  refine ⟨List.pairwise_append.2 ⟨h.up, List.pairwise_singleton _ _, fun r hr s hs => ?_⟩, fun r hr => ?_, fun i hi hF => ?_, fun _ _ => ⟨L, j, 1, rfl, rfl⟩⟩
  · obtain rfl := List.mem_singleton.1 hs
    exact hlt r hr
  · rcases List.mem_append.1 hr with hr | hr
    · obtain ⟨h1, h2, h3, h4, h5, h6⟩ := h.ok r hr
      exact ⟨h1, h2, by omega, h4, h5, fun _ => h6 (hlt r hr)⟩
    · obtain rfl := List.mem_singleton.1 hr
      exact ⟨h1, Nat.le_refl _, Nat.le_refl _, fun i h2 h3 => by simp only at h2 h3; rw [show i = j by omega]; exact hf, hp, fun h2 => by simp only at h2; omega⟩
  · rcases Nat.lt_or_ge i j with q | q
    · obtain ⟨r, hr, h2⟩ := h.all i q hF
      exact ⟨r, List.mem_append_left _ hr, h2⟩
    · exact ⟨(j, 1), List.mem_append_right _ (List.mem_singleton.2 rfl), by simp only; omega, by simp only; omega⟩
theorem Rt.run (h : Rt F n L) (hl : F.length = n) (hr : r ∈ L) : IsRun n F r.1 r.2 := by
  obtain ⟨h1, h2, h3, h4, h5, h6⟩ := h.ok r hr
  refine ⟨h1, h2, h3, h4, h5, ?_⟩
  rcases Nat.lt_or_ge (r.1 + r.2) n with q | q
  · exact h6 q
  · exact out_false hl q
theorem Rt.has (h : Rt F n L) (hl : F.length = n) (g : IsRun n F a K) : (a, K) ∈ L := by
  obtain ⟨r, hr, h1, h2⟩ := h.all a (by have := g.le; have := g.k1; omega) (g.in_ a (Nat.le_refl _) (by have := g.k1; omega))
  have g2 := h.run hl hr
  have e : r.1 = a := by
    rcases Nat.lt_or_ge r.1 a with q | q
    · have := g.lo
      rw [g2.in_ (a - 1) (by omega) (by omega)] at this; cases this
    · omega
  obtain ⟨x, y⟩ := r
  simp only at e g2
  subst e
  rw [g.same g2]
  exact hr
def prN (r : Nat × Nat) : Pr2 := ((r.1 : Int), (r.2 : Int))
theorem sorted_list (h : Rt F n L) (hl : F.length = n) (hs : Sorted n F d) : d.toList = L.map prN := by
  have p1 : d.toList.Pairwise (fun x y => x.1 < y.1) := by
    rw [List.pairwise_iff_getElem]
    intro i j hi hj hij
    rw [Array.length_toList] at hi hj
    have := hs.up i j hij hj
    rw [getElem!_pos d i hi, getElem!_pos d j hj] at this
    exact this
  have p2 : (L.map prN).Pairwise (fun x y => x.1 < y.1) := by
    rw [List.pairwise_map]
    exact h.up.imp (fun {r s} hh => by show (r.1 : Int) < (s.1 : Int); omega)
  have hm : ∀ x, x ∈ d.toList ↔ x ∈ L.map prN := fun x => by
    rw [List.mem_map]
    constructor
    · intro hx
      obtain ⟨h1, h2, g⟩ := hs.sound x hx
      exact ⟨_, h.has hl g, by unfold prN; exact Prod.ext (by show ((x.1.toNat : Nat) : Int) = _; omega) (by show ((x.2.toNat : Nat) : Int) = _; omega)⟩
    · rintro ⟨r, hr, rfl⟩
      exact hs.all r.1 r.2 (h.run hl hr)
  have hp : d.toList.Perm (L.map prN) := by
    rw [List.perm_ext_iff_of_nodup]
    · exact hm
    · exact p1.imp (fun {x y} hh e => by subst e; omega)
    · exact p2.imp (fun {x y} hh e => by subst e; omega)
  exact hp.eq_of_pairwise (fun x y _ _ h1 h2 => absurd h1 (by omega)) p1 p2
/-- The document's Pages at X, its row at Y. -/
structure Rp (w : World) (X Y n : Nat) (F : List Bool) : Prop where
  hx : w.heap[X]? = some (.cells #[.slice (some ⟨Y, 0, none⟩) n n] 60 (0, 0))
  hy : w.heap[Y]? = some (.cells (bs F) 4 (0, 0))
  len : F.length = n
  ne : X ≠ Y
theorem Rp.below (h : Rp w X Y n F) (hb : Below w.heap.size w w') : Rp w' X Y n F := ⟨(hb.block X (block_lt h.hx)).trans h.hx, (hb.block Y (block_lt h.hy)).trans h.hy, h.len, h.ne⟩
theorem Rp.wrote (h : Rp w X Y n F) (hw : Wrote H w H' w') (h1 : ¬ H X) (h2 : ¬ H Y) : Rp w' X Y n F := ⟨(hw.block X (block_lt h.hx) h1).trans h.hx, (hw.block Y (block_lt h.hy) h2).trans h.hy, h.len, h.ne⟩
theorem Rp.c0 (h : Rp w X Y n F) : w.cell? ⟨X, 0, none⟩ = some (.slice (some ⟨Y, 0, none⟩) n n) := cell_of h.hx rfl
theorem Rp.at_ (h : Rp w X Y n F) (hp : p < n) : w.cell? ⟨Y, p, none⟩ = some (.bool (F.getD p false)) ∧ w.frozen? ⟨Y, p, none⟩ = false :=
  ⟨cell_of h.hy (bs_get (by rw [h.len]; exact hp)), frozen_of_row _ _ _ _ _ h.hy⟩
theorem Rp.set (h : Rp w X Y n F) (x : Bool) : Rp (w.setCell ⟨Y, p, none⟩ (.bool x)) X Y n (F.set p x) :=
  ⟨((wr1 w Y p (.bool x)).block X (block_lt h.hx) h.ne).trans h.hx, by rw [heap_setCell_same _ Y _ _ _ _ h.hy, bs_set], by rw [List.length_set]; exact h.len, h.ne⟩
theorem cnt_to (F : List Bool) : ∀ j, j < F.length → cnt (F.take (j + 1)) = cnt (F.take j) + (if F.getD j false then 1 else 0) := fun j hj => by
  have happ : ∀ A B : List Bool, cnt (A ++ B) = cnt A + cnt B := fun A B => by
    induction A with
    | nil => simp [cnt]
    | cons x t ih => simp only [List.cons_append, cnt, ih]; omega
  rw [List.take_succ_eq_append_getElem hj, happ, List.getD_eq_getElem?_getD, List.getElem?_eq_getElem hj]
  rfl
set_option maxRecDepth 100000 in
set_option maxHeartbeats 1000000 in
theorem rleft_any (h : Rp w X Y n F) (hn : n ≤ 300000) : Calls Try.prog 18 #[.pointer (some ⟨X, 0, none⟩)] w (Still (.int .i64 (cnt F)) w) := by
  replace h := Lib.hid h
  go_enter Try.func18, Try.ntmps18
  go_wp2_with fail
  go_loopw [3, 4] (fun u3 u4 wr => ∃ j : Nat, u4 = .int .i64 j ∧ j ≤ n ∧ u3 = .int .i64 (cnt (F.take j)) ∧ wr = w) (fun _ y _ => (n - (RowKit.intOf y).toNat))
  case atStart => exact ⟨0, rfl, by omega, by simp [cnt], rfl⟩
  case round =>
    obtain ⟨j, rfl, jn, rfl, rfl⟩ := hrel
    have c0 := h.out.c0
    have j0 : (0 : Int) ≤ (j : Int) := by omega
    by_cases hj : j < n
    · have j1 : (j : Int) < (n : Int) := by omega
      obtain ⟨c1, _⟩ := h.out.at_ hj
      have hc := cnt_to F j (by rw [h.out.len]; exact hj)
      have hle := cnt_le (F.take j)
      rw [List.length_take] at hle
      generalize cnt (F.take j) = S at *
      have hS : (S : Int) ≤ 300000 := by omega
      have hS0 : (0 : Int) ≤ (S : Int) := by omega
      have hcH : Hid (cnt (F.take (j + 1)) = S + (if F.getD j false then 1 else 0)) := Lib.hid hc
      clear hc hle
      generalize F.getD j false = x at *
      cases x
      all_goals
        go_wp2_with fail
        go_roundw
        case rel =>
          refine ⟨j + 1, by go_num, by omega, ?_, by first | rfl | trivial⟩
          rw [hcH.out]
          simp
        case measure => simp [RowKit.intOf]; omega
    · obtain rfl : j = n := by omega
      have j1 : ¬ (j : Int) < (j : Int) := by omega
      have e : F.take j = F := List.take_of_length_le (by rw [h.out.len]; exact Nat.le_refl _)
      rw [e]
      go_wp2_with fail
      go_ret
      exact ⟨rfl, rfl⟩
end Pg
end Go.Proofs.Ytbheabjemaaeoab
