/- How many pages are free, and what Runs tells: by which pages are free alone. -/
import Derived.Test.YtbheabjemaaeoabPageLeft
import Derived.Test.YtbheabjemaaeoabPageRuns
namespace Go.Proofs.Ytbheabjemaaeoab
open Go.RowKit Go.Lib Fx Ho Gr Go.Sort
set_option linter.unusedVariables false
namespace Pg
variable {W0 w w1 w' W : World} {P b0 z n c i j k K a N : Nat} {v : Value} {L M : List Rn} {H H' : Home} {F : List Bool} {m : Int → Value}
/-- How many are free. -/
def cnt : List Bool → Nat
  | [] => 0
  | b :: t => (if b then 1 else 0) + cnt t
theorem cnt_set : ∀ (F : List Bool) (i : Nat), i < F.length → cnt (F.set i false) + (if F.getD i false then 1 else 0) = cnt F ∧ cnt (F.set i true) = cnt (F.set i false) + 1
  | [], i, h => by simp at h
  | b :: t, 0, _ => by simp [cnt]; omega
  | b :: t, i + 1, h => by
    have ih := cnt_set t i (by simpa using h)
    simp only [List.set_cons_succ, cnt, List.getD_cons_succ]
    omega
theorem cnt_off : ∀ (F : List Bool), (∀ i, F.getD i false = false) → cnt F = 0
  | [], _ => rfl
  | b :: t, h => by
    have h0 : b = false := h 0
    have := cnt_off t (fun i => by have := h (i + 1); simpa using this)
    simp [cnt, h0, this]
theorem cnt_take : ∀ k, a + k ≤ F.length → (∀ i, a ≤ i → i < a + k → F.getD i false = true) → cnt (setR F a false k) + k = cnt F
  | 0, _, _ => rfl
  | k + 1, h, hf => by
    have ih := cnt_take k (by omega) (fun i h1 h2 => hf i h1 (by omega))
    show cnt ((setR F a false k).set (a + k) false) + (k + 1) = cnt F
    have h1 := (cnt_set (setR F a false k) (a + k) (by rw [setR_len]; omega)).1
    have h2 : (setR F a false k).getD (a + k) false = true := by rw [setR_get F a false _ k (by omega), if_neg (by omega)]; exact hf _ (by omega) (by omega)
    rw [h2] at h1
    simp at h1
    omega
theorem cnt_back : ∀ k, a + k ≤ F.length → (∀ i, a ≤ i → i < a + k → F.getD i false = false) → cnt (setR F a true k) = cnt F + k
  | 0, _, _ => rfl
  | k + 1, h, hf => by
    have ih := cnt_back k (by omega) (fun i h1 h2 => hf i h1 (by omega))
    show cnt ((setR F a true k).set (a + k) true) = cnt F + (k + 1)
    have h1 := cnt_set (setR F a true k) (a + k) (by rw [setR_len]; omega)
    have h2 : (setR F a true k).getD (a + k) false = false := by rw [setR_get F a true _ k (by omega), if_neg (by omega)]; exact hf _ (by omega) (by omega)
    rw [h2] at h1
    simp at h1
    omega
theorem tot_cnt : ∀ (L : List Rn) (F : List Bool), Rel n F L → Lx n L → F.length = n → tot L = cnt F
  | [], F, hr, hx, hl => by
    rw [cnt_off F (fun i => ?_)]
    · rfl
    · cases h : F.getD i false with
      | false => rfl
      | true =>
        obtain ⟨b, m, g, _⟩ := in_run hl hr.zero h
        obtain ⟨r, hr, _⟩ := hr.all b m g
        cases hr
  | r :: M, F, hr, hx, hl => by
    obtain ⟨a, K, h1, h2, h3⟩ := rel_nat hr hx (List.mem_cons_self ..)
    have hc := rel_cut (N := 0) (k := K) hr hx hl (List.Perm.refl _) h1 h2 h3.k1 (Nat.le_refl _) (X := []) (by rw [if_neg (by omega)]) (M2 := M) (by rw [List.append_nil])
    have ih := tot_cnt M (setR F a false K) hc hx.cons.1 (by rw [setR_len]; exact hl)
    have ht := cnt_take (F := F) (a := a) K (by rw [hl]; exact h3.le) h3.in_
    show r.2.1 + tot M = _
    omega
theorem left_any (h : Ps W0 W P n c F H) : Calls Try.prog 11 #[.pointer (some ⟨P, 0, none⟩)] W (Still (.int .i64 (cnt F)) W) := by
  obtain ⟨v, b0, z, L, m, h1, h2, h3, h4, rfl⟩ := h
  rw [← tot_cnt L F h2 h1.lx h1.pc.len]
  exact left_w h1
/-- The runs of F, by their first pages. -/
structure Sorted (n : Nat) (F : List Bool) (d : Array Pr2) : Prop where
  sound : ∀ x, x ∈ d.toList → 0 ≤ x.1 ∧ 0 ≤ x.2 ∧ IsRun n F x.1.toNat x.2.toNat
  all : ∀ a K : Nat, IsRun n F a K → ((a : Int), (K : Int)) ∈ d.toList
  up : ∀ i j, i < j → j < d.size → d[i]!.1 < d[j]!.1
/-- What Runs answers and makes, in a session of a law. -/
def RunsS (W0 : World) (P n c : Nat) (F : List Bool) (H : Home) (w : World) (e : Ending) (w' : World) : Prop := ∃ b cap, ∃ d : Array Pr2, e = .returned (.slice (some ⟨b, 0, none⟩) d.size cap) ∧ w.heap.size ≤ b ∧ b < w'.heap.size ∧ d.size ≤ cap ∧ d.size ≤ 1000 ∧ HoldsK encR 2 w' b 0 d ∧ Sorted n F d ∧ Below w.heap.size w w' ∧ Ps W0 w' P n c F H
theorem runs_any (h : Ps W0 W P n c F H) : Calls Try.prog 10 #[.pointer (some ⟨P, 0, none⟩)] W (RunsS W0 P n c F H W) := by
  obtain ⟨v, b0, z, L, m, h1, h2, h3, h4, rfl⟩ := id h
  refine (runs_w h1).mono fun e w' ⟨b, cap, d, he, q1, q2, q3, q4, q5, q6, q7⟩ => ⟨b, cap, d, he, q1, q2, q3, ?_, q4, ⟨fun x hx => ?_, fun a K g => ?_, fun i j hij hj => ?_⟩, q7, h.below q7⟩
  · have := q5.length_eq
    rw [List.length_map, Array.length_toList] at this
    have := h1.pc.q.pile.small
    omega
  · obtain ⟨r, hr, rfl⟩ := List.mem_map.1 (q5.mem_iff.1 hx)
    have hp := h1.lx.pos r hr
    exact ⟨by show 0 ≤ r.1; omega, by show 0 ≤ r.2.1; omega, h2.sound r hr⟩
  · obtain ⟨r, hr, r1, r2⟩ := h2.all a K g
    refine q5.mem_iff.2 (List.mem_map.2 ⟨r, hr, ?_⟩)
    unfold pr
    rw [r1, r2]
  · have hle := q6 i j hij hj
    have hap : (L.map pr).Pairwise (fun x y => x.1 ≠ y.1) := by
      rw [List.pairwise_map]
      refine List.Pairwise.imp_of_mem (R := Apart) ?_ h1.lx.pair
      intro r s hr hs hap
      have p1 := h1.lx.pos r hr
      have p2 := h1.lx.pos s hs
      unfold Apart at hap
      show r.1 ≠ s.1
      omega
    have hd := q5.symm.pairwise hap (fun h => Ne.symm h)
    have hne := List.pairwise_iff_getElem.1 hd i j (by rw [Array.length_toList]; omega) (by rw [Array.length_toList]; exact hj) hij
    rw [Array.getElem_toList, Array.getElem_toList, ← getElem!_pos d i (by omega), ← getElem!_pos d j hj] at hne
    omega
end Pg
end Go.Proofs.Ytbheabjemaaeoab
