import Derived.Test.YtdnajpnnjfncbaaDoorMB4
/- ModelFaults: its program, step by step. -/
namespace Go.Proofs.YtdnajpnnjfncbaaDoor
open Go.RowKit Go.Lib Fx Ho Gr
set_option linter.unusedVariables false
namespace Md
open Cd (Ins zi ca c4 okI hasB bnd kd okAt FRow)
variable {k i : Nat}
def inF (ld : Bool) (i : Nat) : Ins := if ld then (2, 2, 1, (i : Int)) else (3, 1, (i : Int), 1)
def fsF (ld : Bool) (i k : Nat) : List (List Ins) := [[(8, 1, 0, 0), (1, 1, (k : Int), 0), inF ld i, (2, 3, 9, 0)], [(5, 0, 0, 0)]]
theorem two_cases {P : Nat → Prop} (h0 : P 0) (h1 : P 1) : ∀ i, i < 2 → P i := fun i hi => by
  rcases (show i = 0 ∨ i = 1 by omega) with rfl | rfl
  · exact h0
  · exact h1
theorem pgF (ld : Bool) (hi : i < 256) (hk : k < 256) : Pg 0 (fsF ld i k) := by
  refine ⟨by show 2 ≤ 16; omega, by show 1 ≤ 2; omega, by omega, two_cases ⟨by show 1 ≤ 4; omega, by show 4 ≤ 64; omega⟩ ⟨by show 1 ≤ 1; omega, by show 1 ≤ 64; omega⟩, two_cases (fun j hj => ?_) (fun j hj => ?_)⟩
  · have hj : j < 4 := hj
    rcases (show j = 0 ∨ j = 1 ∨ j = 2 ∨ j = 3 by omega) with rfl | rfl | rfl | rfl
    · rfl
    · show okI 0 2 4 (1, 1, (k : Int), 0) = true
      simp [okI, hasB, bnd, kd, Cd.kinds]; omega
    · show okI 0 2 4 (inF ld i) = true
      cases ld
      · simp [inF, okI, hasB, bnd, kd, Cd.kinds]; omega
      · simp [inF, okI, hasB, bnd, kd, Cd.kinds]; omega
    · rfl
  · have hj : j < 1 := hj
    obtain rfl : j = 0 := by omega
    rfl
def mF1 : Mo := ⟨[⟨0, 1, 0, List.replicate 16 0⟩, fresh 1 0], [1, 1], [], [], 0, [], 0, fun _ => []⟩
def mF2 (k : Nat) : Mo := ⟨[⟨0, 2, 0, 0 :: 1 :: List.replicate 14 0⟩, fresh 1 0], [1, 1], [], [List.replicate (k + 1) 0], 0, [], 0, fun _ => []⟩
theorem stF1 (ld : Bool) : step (fsF ld i k) (mo0 0) 0 = mF1 := rfl
theorem stF2 (ld : Bool) : step (fsF ld i k) mF1 0 = mF2 k := rfl
theorem insF (ld : Bool) : insAt (fsF ld i k) (mF2 k) 0 = inF ld i := rfl
theorem slotF : slotOf (doM (mF2 k) 0) 1 i = if i ≤ k then some 0 else none := by
  show (List.replicate (k + 1) (0 : Int))[i]? = _
  rw [List.getElem?_replicate]
  by_cases h : i ≤ k
  · rw [if_pos (by omega), if_pos h]
  · rw [if_neg (by omega), if_neg h]
theorem badF (ld : Bool) (h : k < i) : (∃ op, comM (fsF ld i k) (mF2 k) 0 = comV 0 0 2 op 0 true) ∧ (step (fsF ld i k) (mF2 k) 0).st = [5, 1] ∧ (step (fsF ld i k) (mF2 k) 0).ob.length = 1 ∧ (step (fsF ld i k) (mF2 k) 0).gl = [] ∧ (step (fsF ld i k) (mF2 k) 0).gs.getD 1 g0 = fresh 1 0 := by
  have hs := slotF (k := k) (i := i)
  rw [if_neg (by omega)] at hs
  have ho : outI (fsF ld i k) (mF2 k) 0 = (doM (mF2 k) 0, 0, 5, true) := by
    unfold outI
    rw [insF]
    cases ld
    · show (match slotOf (doM (mF2 k) 0) 1 i with | none => (doM (mF2 k) 0, (0 : Int), (5 : Int), true) | some _ => _) = _
      rw [hs]
    · show (match slotOf (doM (mF2 k) 0) 1 i with | none => (doM (mF2 k) 0, (0 : Int), (5 : Int), true) | some z => _) = _
      rw [hs]
  refine ⟨⟨_, by unfold comM; rw [ho]; rfl⟩, ?_, ?_, ?_, ?_⟩ <;> (unfold step; rw [ho]; rfl)
theorem goodF (ld : Bool) (h : i ≤ k) : (∃ op, comM (fsF ld i k) (mF2 k) 0 = comV 0 0 2 op 0 false) ∧ (step (fsF ld i k) (mF2 k) 0).st = [1, 1] ∧ (step (fsF ld i k) (mF2 k) 0).ob.length = 1 ∧ comM (fsF ld i k) (step (fsF ld i k) (mF2 k) 0) 0 = comV 0 0 3 2 0 true ∧ (step (fsF ld i k) (step (fsF ld i k) (mF2 k) 0) 0).st = [5, 1] ∧ (step (fsF ld i k) (step (fsF ld i k) (mF2 k) 0) 0).ob.length = 1 ∧ (step (fsF ld i k) (mF2 k) 0).gs.length = 2 := by
  have hs := slotF (k := k) (i := i)
  rw [if_pos h] at hs
  cases ld
  · have ho : outI (fsF false i k) (mF2 k) 0 = ({ doM (mF2 k) 0 with ob := [(List.replicate (k + 1) 0).set i 1] }, 0, 1, false) := by
      unfold outI
      rw [insF]
      show (match slotOf (doM (mF2 k) 0) 1 i with | none => (doM (mF2 k) 0, (0 : Int), (5 : Int), true) | some _ => _) = _
      rw [hs]; rfl
    have hst : step (fsF false i k) (mF2 k) 0 = ⟨[⟨0, 3, 0, 0 :: 1 :: List.replicate 14 0⟩, fresh 1 0], [1, 1], [], [(List.replicate (k + 1) 0).set i 1], 0, [], 0, fun _ => []⟩ := by unfold step; rw [ho]; rfl
    rw [hst]
    exact ⟨⟨_, by unfold comM; rw [ho]; rfl⟩, rfl, rfl, rfl, rfl, rfl, rfl⟩
  · have ho : outI (fsF true i k) (mF2 k) 0 = (doM (mF2 k) 0, 0, 1, false) := by
      unfold outI
      rw [insF]
      show (match slotOf (doM (mF2 k) 0) 1 i with | none => (doM (mF2 k) 0, (0 : Int), (5 : Int), true) | some z => ({ doM (mF2 k) 0 with gs := (doM (mF2 k) 0).gs.set 0 { (doM (mF2 k) 0).gs.getD 0 g0 with sk := ((doM (mF2 k) 0).gs.getD 0 g0).sk.set 2 z } }, z, 1, false)) = _
      rw [hs]; rfl
    have hst : step (fsF true i k) (mF2 k) 0 = ⟨[⟨0, 3, 0, 0 :: 1 :: List.replicate 14 0⟩, fresh 1 0], [1, 1], [], [List.replicate (k + 1) 0], 0, [], 0, fun _ => []⟩ := by unfold step; rw [ho]; rfl
    rw [hst]
    exact ⟨⟨_, by unfold comM; rw [ho]; rfl⟩, rfl, rfl, rfl, rfl, rfl, rfl⟩
/-- Nothing can be reached where all that is alive has nothing. -/
theorem rcF {M : Mo} (h1 : M.st = [5, 1]) (h2 : M.gl = []) (h3 : M.gs.getD 1 g0 = fresh 1 0) : ∀ i, ¬ Rc M i := fun i h => by
  induction h with
  | gl a b => rw [h2] at a; cases a
  | sk a b c d =>
    rename_i g z
    rw [h1] at a b
    have a : g < 2 := a
    rcases (show g = 0 ∨ g = 1 by omega) with rfl | rfl
    · exact b rfl
    · rw [h3] at c
      exact d (List.eq_of_mem_replicate (n := 16) c)
  | ob _ _ _ ih => exact ih
/-- A program of two functions that lies in three blocks. -/
theorem frow2 (W : World) (l1 l2 : List Ins) (n1 n2 : Nat) (h1 : l1.length = n1) (h2 : l2.length = n2) (hn : n1 ≤ 1000 ∧ n2 ≤ 1000) : FRow (((W.alloc (.cells (ca l1).toArray 29)).alloc (.cells (ca l2).toArray 29)).alloc (.cells #[.slice (some ⟨W.heap.size, 0, none⟩) n1 n1, .slice (some ⟨W.heap.size + 1, 0, none⟩) n2 n2] 30)) (.slice (some ⟨W.heap.size + 2, 0, none⟩) 2 2) [l1, l2] ∧ Below W.heap.size W (((W.alloc (.cells (ca l1).toArray 29)).alloc (.cells (ca l2).toArray 29)).alloc (.cells #[.slice (some ⟨W.heap.size, 0, none⟩) n1 n1, .slice (some ⟨W.heap.size + 1, 0, none⟩) n2 n2] 30)) := by
  subst h1 h2
  have k1 := heap_alloc_new W (.cells (ca l1).toArray 29)
  have k2 := heap_alloc_new (W.alloc (.cells (ca l1).toArray 29)) (.cells (ca l2).toArray 29)
  have k3 := heap_alloc_new ((W.alloc (.cells (ca l1).toArray 29)).alloc (.cells (ca l2).toArray 29)) (.cells #[.slice (some ⟨W.heap.size, 0, none⟩) l1.length l1.length, .slice (some ⟨W.heap.size + 1, 0, none⟩) l2.length l2.length] 30)
  have b2 := below_alloc (Below.refl _ (W.alloc (.cells (ca l1).toArray 29))) (.cells (ca l2).toArray 29)
  have b3 := below_alloc (Below.refl _ ((W.alloc (.cells (ca l1).toArray 29)).alloc (.cells (ca l2).toArray 29))) (.cells #[.slice (some ⟨W.heap.size, 0, none⟩) l1.length l1.length, .slice (some ⟨W.heap.size + 1, 0, none⟩) l2.length l2.length] 30)
  have k2' := (b3.block _ (block_lt k2)).trans k2
  have k1' := (b3.block _ (by have := block_lt k1; have := b2.size; omega)).trans ((b2.block _ (block_lt k1)).trans k1)
  simp only [s_alloc] at k2' k3
  refine ⟨frow_lit (vs := [.slice (some ⟨W.heap.size, 0, none⟩) l1.length l1.length, .slice (some ⟨W.heap.size + 1, 0, none⟩) l2.length l2.length]) (fs := [l1, l2]) k3 rfl (by show 2 ≤ 1000; omega) (two_cases (irow_lit (l := l1) k1' hn.1) (irow_lit (l := l2) k2' hn.2)), below_alloc (below_alloc (below_alloc (Below.refl _ _) _) _) _⟩
end Md
end Go.Proofs.YtdnajpnnjfncbaaDoor
