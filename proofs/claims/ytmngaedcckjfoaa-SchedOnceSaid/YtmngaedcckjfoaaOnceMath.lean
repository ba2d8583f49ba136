/- The law's own counting: who was made ready and not picked stands there once; picks that find nobody come to an end. -/
import Derived.Test.YtmngaedcckjfoaaSchedSum
import Derived.Deep.OwnRows
namespace Go.Proofs.Ytmngaedcckjfoaa
open Go.RowKit Go.Lib Fx Ho Gr
set_option linter.unusedVariables false
namespace Sd
variable {R R' : List Rg} {C C' : List Int} {S : List Bool} {i k left : Nat}
/-- Of the first i those that are not seen stand there, once each; from i on nobody is seen. -/
structure Cnt (R : List Rg) (C : List Int) (S : List Bool) (i k left : Nat) : Prop where
  len : S.length = k
  each : ∀ x : Int, fa (is x) R C = if 0 ≤ x ∧ x < (i : Int) ∧ S.getD x.toNat true = false then 1 else 0
  rest : ∀ j : Nat, i ≤ j → j < k → S.getD j true = false
  sum : fa (fun _ => 1) R C = left
  ik : i ≤ k
  lk : left ≤ i
theorem Cnt.clen (h : Cnt R C S i k left) : C.length ≤ left := by
  have := h.sum; rw [fa_one] at this; omega
theorem cnt0 (p k : Nat) : Cnt (List.replicate p rg0) [] (List.replicate k false) 0 k 0 :=
  ⟨List.length_replicate, fun x => by rw [fa_none, if_neg (by omega)], fun j _ hj => by rw [List.getD_eq_getElem?_getD, List.getElem?_replicate, if_pos hj]; rfl, fa_none p, by omega, by omega⟩
theorem Cnt.ready (h : Cnt R C S i k left) (hi : i < k) {q : Nat} (hq : q < R.length) (next : Bool) : Cnt (R.set q (rPut (R.getD q rg0) i next).1) (C ++ (rPut (R.getD q rg0) i next).2) S (i + 1) k (left + 1) := by
  have key : ∀ f, fa f (R.set q (rPut (R.getD q rg0) i next).1) (C ++ (rPut (R.getD q rg0) i next).2) = f i + fa f R C := fun f => by
    have h1 := fa_set (f := f) (r := (rPut (R.getD q rg0) i next).1) (C := C) (C' := C ++ (rPut (R.getD q rg0) i next).2) hq
    have h2 := rput_fs (f := f) (R.getD q rg0) i next
    rw [fs_app] at h1
    omega
  refine ⟨h.len, fun x => ?_, fun j h1 h2 => h.rest j (by omega) h2, by rw [key, h.sum]; omega, by omega, by have := h.lk; omega⟩
  rw [key, h.each]
  unfold is
  by_cases e : (i : Int) = x
  · subst e
    rw [if_pos rfl, if_neg (by omega), if_pos ⟨by omega, by omega, by rw [Int.toNat_natCast]; exact h.rest i (Nat.le_refl _) hi⟩]
  · rw [if_neg e]
    by_cases hx : 0 ≤ x ∧ x < (i : Int) ∧ S.getD x.toNat true = false
    · rw [if_pos hx, if_pos ⟨hx.1, by omega, hx.2.2⟩]
    · rw [if_neg hx, if_neg (fun h2 => hx ⟨h2.1, by omega, h2.2.2⟩)]
theorem Cnt.there (h : Cnt R C S i k left) {x : Nat} (hx : x < i) (hs : S.getD x true = false) : 0 < fa (is (x : Int)) R C := by
  rw [h.each, if_pos ⟨by omega, by omega, by rw [Int.toNat_natCast]; exact hs⟩]; omega
theorem gd_setB {S : List Bool} {i j : Nat} {b : Bool} (hi : i < S.length) : (S.set i b).getD j true = if i = j then b else S.getD j true := by
  rw [List.getD_eq_getElem?_getD, List.getD_eq_getElem?_getD, List.getElem?_set]
  by_cases e : i = j
  · subst e; rw [if_pos rfl, if_pos hi, if_pos rfl]; rfl
  · rw [if_neg e, if_neg e]
theorem Cnt.picked (h : Cnt R C S i k left) {q : Nat} {t v g : Int} (hq : q < R.length) (hp : pickS R C q t v = (some g, R', C')) : ∃ x : Nat, g = (x : Int) ∧ x < i ∧ S.getD x true = false ∧ 1 ≤ left ∧ Cnt R' C' (S.set x true) i k (left - 1) := by
  have key := fun f => pick_fs (f := f) (C := C) hq hp
  have h1 := key (is g)
  have h2 := key (fun _ => 1)
  rw [h.each] at h1
  rw [h.sum] at h2
  have hg : is g g = 1 := if_pos rfl
  rw [hg] at h1
  by_cases hx : 0 ≤ g ∧ g < (i : Int) ∧ S.getD g.toNat true = false
  · obtain ⟨x, rfl⟩ : ∃ x : Nat, g = (x : Int) := ⟨g.toNat, by omega⟩
    rw [Int.toNat_natCast] at hx
    have hxi : x < i := by omega
    have hxl : x < S.length := by have := h.len; have := h.ik; omega
    refine ⟨x, rfl, hxi, hx.2.2, by omega, ⟨by rw [List.length_set]; exact h.len, fun y => ?_, fun j h3 h4 => ?_, by omega, h.ik, by have := h.lk; omega⟩⟩
    · have h3 := key (is y)
      rw [h.each] at h3
      rw [gd_setB hxl]
      by_cases e : (x : Int) = y
      · subst e
        rw [Int.toNat_natCast, if_pos hx] at h3
        rw [if_neg (by rw [Int.toNat_natCast, if_pos rfl]; simp)]
        rw [hg] at h3; omega
      · rw [show is y x = 0 from if_neg e] at h3
        by_cases hy : 0 ≤ y
        · rw [if_neg (by omega : ¬ x = y.toNat)]; omega
        · rw [if_neg (fun h4 => hy h4.1)] at h3 ⊢; omega
    · rw [gd_setB hxl, if_neg (by omega)]; exact h.rest j h3 h4
  · rw [if_neg hx] at h1; omega
/-- The picks that found nobody, f of them, up to the round i: the victims that they asked have nobody. -/
structure Fails (R : List Rg) (C : List Int) (m i f : Nat) : Prop where
  fi : f ≤ i
  each : ∀ t, i - f ≤ t → t < i → R.getD (1 + t % m) rg0 = rg0
  own : 0 < f → C = [] ∧ R.getD 0 rg0 = rg0
theorem fails0 (R : List Rg) (C : List Int) (m i : Nat) : Fails R C m i 0 := ⟨by omega, fun t h1 h2 => by omega, fun h => by omega⟩
theorem residue {m : Nat} (h1 : 1 ≤ m) (h7 : m ≤ 7) (a r : Nat) (hr : r < m) : ∃ t, a ≤ t ∧ t < a + m ∧ t % m = r := by
  rcases (show m = 1 ∨ m = 2 ∨ m = 3 ∨ m = 4 ∨ m = 5 ∨ m = 6 ∨ m = 7 by omega) with rfl | rfl | rfl | rfl | rfl | rfl | rfl
  · exact ⟨a, by omega, by omega, by omega⟩
  · exact ⟨a + (r + 2 - a % 2) % 2, by omega, by omega, by omega⟩
  · exact ⟨a + (r + 3 - a % 3) % 3, by omega, by omega, by omega⟩
  · exact ⟨a + (r + 4 - a % 4) % 4, by omega, by omega, by omega⟩
  · exact ⟨a + (r + 5 - a % 5) % 5, by omega, by omega, by omega⟩
  · exact ⟨a + (r + 6 - a % 6) % 6, by omega, by omega, by omega⟩
  · exact ⟨a + (r + 7 - a % 7) % 7, by omega, by omega, by omega⟩
/-- Nobody is found once more: fewer than m times in all, for somebody stands there. -/
theorem Fails.more {m f : Nat} (h : Fails R C m i f) (hm : m = max (R.length - 1) 1) (hR : 1 ≤ R.length) (h8 : R.length ≤ 8) (hl : 0 < fa (fun _ => 1) R C) {t : Int} (hno : (pickS R C 0 t ((1 + i % m : Nat) : Int)).1 = none) : Fails R C m (i + 1) (f + 1) ∧ f + 1 ≤ 7 := by
  obtain ⟨_, hC, h0, hv⟩ := pick_nobody (R := R) (C := C) (i := 0) (by omega) hno
  have hall : (∀ j, j < R.length → R.getD j rg0 = rg0) → False := fun hz => by
    have : fa (fun _ => 1) R C = 0 := by unfold fa; rw [fr_zero _ hz, hC]; rfl
    omega
  have hm1 : 1 ≤ m := by omega
  by_cases h2 : R.length = 1
  · exact (hall fun j hj => by obtain rfl : j = 0 := by omega
                               exact h0).elim
  · have hmR : m = R.length - 1 := by omega
    have hlt : i % m < m := Nat.mod_lt _ (by omega)
    have hF : Fails R C m (i + 1) (f + 1) := ⟨by have := h.fi; omega, fun s h3 h4 => by
      by_cases e : s = i
      · subst e; exact hv _ rfl (by omega)
      · exact h.each s (by omega) (by omega), fun _ => ⟨hC, h0⟩⟩
    refine ⟨hF, ?_⟩
    by_cases hf : m ≤ f + 1
    · refine (hall fun j hj => ?_).elim
      rcases Nat.eq_zero_or_pos j with rfl | hj0
      · exact h0
      · obtain ⟨s, s1, s2, s3⟩ := residue hm1 (by omega) (i + 1 - m) (j - 1) (by omega)
        have hi1 := hF.fi
        have := hF.each s (by omega) (by omega)
        rwa [s3, show 1 + (j - 1) = j by omega] at this
    · omega
end Sd
end Go.Proofs.Ytmngaedcckjfoaa
