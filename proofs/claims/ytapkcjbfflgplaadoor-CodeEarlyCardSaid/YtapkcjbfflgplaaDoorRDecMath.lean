/- The document's own Decode: an instruction, part by part. -/
import Derived.Test.YtapkcjbfflgplaaDoorRMay
import Derived.Test.YtapkcjbfflgplaaDoorEncDec
namespace Go.Proofs.YtapkcjbfflgplaaDoor
open Go.RowKit Go.Lib Fx Ho Gr
set_option linter.unusedVariables false
namespace Cd
variable {w w' W wr : World} {G nf len n : Int} {fs : List (List Ins)} {zs A : List Int} {p j : Nat}
/-- What stands at the j-th part. -/
def zAt (zs : List Int) (p j : Nat) : Int := zs.getD (p + j) 0
/-- Does the j-th part fit (0: the Op)? -/
def fitJ (G nf len : Int) (zs : List Int) (p j : Nat) : Prop := 0 ≤ zAt zs p j ∧ zAt zs p j < if j = 0 then 18 else bnd G nf len (kd (zAt zs p 0).toNat (j - 1))
/-- The instruction of the first j + 1 parts. -/
def xJ (zs : List Int) (p j : Nat) : Ins := (zAt zs p 0, if 1 ≤ j then zAt zs p 1 else 0, if 2 ≤ j then zAt zs p 2 else 0, if 3 ≤ j then zAt zs p 3 else 0)
theorem has_fit {k : Int} {m : Int} : hasB G nf len k m = true ↔ (0 ≤ m ∧ m < bnd G nf len k) := by unfold hasB; exact decide_eq_true_iff
theorem has_not {k : Int} {m : Int} : hasB G nf len k m = false ↔ ¬ (0 ≤ m ∧ m < bnd G nf len k) := by unfold hasB; exact decide_eq_false_iff_not
theorem wrong_j (hj : j < 4) (hb : ∀ t, t < j → fitJ G nf len zs p t) : (fitJ G nf len zs p j → ¬ (0 ≤ wrongN G nf len (xJ zs p j) ∧ wrongN G nf len (xJ zs p j) ≤ j)) ∧ (¬ fitJ G nf len zs p j → wrongN G nf len (xJ zs p j) = j) := by
  have hx : (xJ zs p j).1 = zAt zs p 0 := rfl
  rcases (show j = 0 ∨ j = 1 ∨ j = 2 ∨ j = 3 by omega) with rfl | rfl | rfl | rfl
  · refine ⟨fun h => ?_, fun h => ?_⟩
    · have h : 0 ≤ zAt zs p 0 ∧ zAt zs p 0 < 18 := h
      unfold wrongN
      rw [hx, if_neg (fun g => g h)]
      split <;> (try split) <;> (try split) <;> omega
    · have h : ¬ (0 ≤ zAt zs p 0 ∧ zAt zs p 0 < 18) := h
      unfold wrongN
      rw [hx, if_pos h]; rfl
  · have h0 : 0 ≤ zAt zs p 0 ∧ zAt zs p 0 < 18 := hb 0 (by omega)
    have e : (xJ zs p 1).2.1 = zAt zs p 1 := rfl
    refine ⟨fun h => ?_, fun h => ?_⟩
    · have h := has_fit.2 (show 0 ≤ zAt zs p 1 ∧ zAt zs p 1 < bnd G nf len (kd (zAt zs p 0).toNat 0) from h)
      unfold wrongN
      rw [hx, e, if_neg (fun g => g h0), if_neg (by rw [h]; simp)]
      split <;> (try split) <;> omega
    · have h := has_not.2 (show ¬ (0 ≤ zAt zs p 1 ∧ zAt zs p 1 < bnd G nf len (kd (zAt zs p 0).toNat 0)) from h)
      unfold wrongN
      rw [hx, e, if_neg (fun g => g h0), if_pos h]; rfl
  · have h0 : 0 ≤ zAt zs p 0 ∧ zAt zs p 0 < 18 := hb 0 (by omega)
    have h1 := has_fit.2 (show 0 ≤ zAt zs p 1 ∧ zAt zs p 1 < bnd G nf len (kd (zAt zs p 0).toNat 0) from hb 1 (by omega))
    have e : (xJ zs p 2).2.1 = zAt zs p 1 := rfl
    have e2 : (xJ zs p 2).2.2.1 = zAt zs p 2 := rfl
    refine ⟨fun h => ?_, fun h => ?_⟩
    · have h := has_fit.2 (show 0 ≤ zAt zs p 2 ∧ zAt zs p 2 < bnd G nf len (kd (zAt zs p 0).toNat 1) from h)
      unfold wrongN
      rw [hx, e, e2, if_neg (fun g => g h0), if_neg (by rw [h1]; simp), if_neg (by rw [h]; simp)]
      split <;> omega
    · have h := has_not.2 (show ¬ (0 ≤ zAt zs p 2 ∧ zAt zs p 2 < bnd G nf len (kd (zAt zs p 0).toNat 1)) from h)
      unfold wrongN
      rw [hx, e, e2, if_neg (fun g => g h0), if_neg (by rw [h1]; simp), if_pos h]; rfl
  · have h0 : 0 ≤ zAt zs p 0 ∧ zAt zs p 0 < 18 := hb 0 (by omega)
    have h1 := has_fit.2 (show 0 ≤ zAt zs p 1 ∧ zAt zs p 1 < bnd G nf len (kd (zAt zs p 0).toNat 0) from hb 1 (by omega))
    have h2 := has_fit.2 (show 0 ≤ zAt zs p 2 ∧ zAt zs p 2 < bnd G nf len (kd (zAt zs p 0).toNat 1) from hb 2 (by omega))
    have e : (xJ zs p 3).2.1 = zAt zs p 1 := rfl
    have e2 : (xJ zs p 3).2.2.1 = zAt zs p 2 := rfl
    have e3 : (xJ zs p 3).2.2.2 = zAt zs p 3 := rfl
    refine ⟨fun h => ?_, fun h => ?_⟩
    · have h := has_fit.2 (show 0 ≤ zAt zs p 3 ∧ zAt zs p 3 < bnd G nf len (kd (zAt zs p 0).toNat 2) from h)
      unfold wrongN
      rw [hx, e, e2, e3, if_neg (fun g => g h0), if_neg (by rw [h1]; simp), if_neg (by rw [h2]; simp), if_neg (by rw [h]; simp)]
      omega
    · have h := has_not.2 (show ¬ (0 ≤ zAt zs p 3 ∧ zAt zs p 3 < bnd G nf len (kd (zAt zs p 0).toNat 2)) from h)
      unfold wrongN
      rw [hx, e, e2, e3, if_neg (fun g => g h0), if_neg (by rw [h1]; simp), if_neg (by rw [h2]; simp), if_pos h]; rfl
theorem num_fit {q : Nat} {z hi : Int} (h : q < zs.length) (e : zs.getD q 0 = z) (h1 : 0 ≤ z ∧ z < hi) : num zs q 0 (hi - 1) = .ok z := num_is h e h1.1 (by omega)
theorem num_not {q : Nat} {hi : Int} (h : ¬ (q < zs.length ∧ 0 ≤ zs.getD q 0 ∧ zs.getD q 0 < hi)) : num zs q 0 (hi - 1) = .error q := by
  unfold num
  rw [if_neg (fun g => h ⟨g.1, g.2.1, by omega⟩)]
/-- What is read of an instruction, as far as it fits. -/
theorem inst_stop (hj : j < 4) (hb : ∀ t, t < j → p + t < zs.length ∧ fitJ G nf len zs p t) (h : ¬ (p + j < zs.length ∧ fitJ G nf len zs p j)) : instE zs p G nf len = .error (p + j) := by
  unfold instE
  rcases (show j = 0 ∨ j = 1 ∨ j = 2 ∨ j = 3 by omega) with rfl | rfl | rfl | rfl
  · rw [show (17 : Int) = 18 - 1 by decide, num_not (q := p) (hi := 18) (fun g => h ⟨g.1, g.2⟩)]; rfl
  · obtain ⟨l0, f0⟩ := hb 0 (by omega)
    rw [show (17 : Int) = 18 - 1 by decide, num_fit (q := p) (z := zAt zs p 0) (hi := 18) l0 rfl f0]
    simp only [bind_ok]
    rw [num_not (q := p + 1) (hi := bnd G nf len (kd (zAt zs p 0).toNat 0)) (fun g => h ⟨g.1, g.2⟩)]; rfl
  · obtain ⟨l0, f0⟩ := hb 0 (by omega)
    obtain ⟨l1, f1⟩ := hb 1 (by omega)
    rw [show (17 : Int) = 18 - 1 by decide, num_fit (q := p) (z := zAt zs p 0) (hi := 18) l0 rfl f0]
    simp only [bind_ok]
    rw [num_fit (q := p + 1) (z := zAt zs p 1) (hi := bnd G nf len (kd (zAt zs p 0).toNat 0)) l1 rfl f1]
    simp only [bind_ok]
    rw [num_not (q := p + 2) (hi := bnd G nf len (kd (zAt zs p 0).toNat 1)) (fun g => h ⟨g.1, g.2⟩)]; rfl
  · obtain ⟨l0, f0⟩ := hb 0 (by omega)
    obtain ⟨l1, f1⟩ := hb 1 (by omega)
    obtain ⟨l2, f2⟩ := hb 2 (by omega)
    rw [show (17 : Int) = 18 - 1 by decide, num_fit (q := p) (z := zAt zs p 0) (hi := 18) l0 rfl f0]
    simp only [bind_ok]
    rw [num_fit (q := p + 1) (z := zAt zs p 1) (hi := bnd G nf len (kd (zAt zs p 0).toNat 0)) l1 rfl f1]
    simp only [bind_ok]
    rw [num_fit (q := p + 2) (z := zAt zs p 2) (hi := bnd G nf len (kd (zAt zs p 0).toNat 1)) l2 rfl f2]
    simp only [bind_ok]
    rw [num_not (q := p + 3) (hi := bnd G nf len (kd (zAt zs p 0).toNat 2)) (fun g => h ⟨g.1, g.2⟩)]; rfl
theorem inst_all (hb : ∀ t, t < 4 → p + t < zs.length ∧ fitJ G nf len zs p t) : instE zs p G nf len = .ok (xJ zs p 3) := by
  unfold instE
  obtain ⟨l0, f0⟩ := hb 0 (by omega)
  obtain ⟨l1, f1⟩ := hb 1 (by omega)
  obtain ⟨l2, f2⟩ := hb 2 (by omega)
  obtain ⟨l3, f3⟩ := hb 3 (by omega)
  rw [show (17 : Int) = 18 - 1 by decide, num_fit (q := p) (z := zAt zs p 0) (hi := 18) l0 rfl f0]
  simp only [bind_ok]
  rw [num_fit (q := p + 1) (z := zAt zs p 1) (hi := bnd G nf len (kd (zAt zs p 0).toNat 0)) l1 rfl f1]
  simp only [bind_ok]
  rw [num_fit (q := p + 2) (z := zAt zs p 2) (hi := bnd G nf len (kd (zAt zs p 0).toNat 1)) l2 rfl f2]
  simp only [bind_ok]
  rw [num_fit (q := p + 3) (z := zAt zs p 3) (hi := bnd G nf len (kd (zAt zs p 0).toNat 2)) l3 rfl f3]
  rfl
end Cd
end Go.Proofs.YtapkcjbfflgplaaDoor
