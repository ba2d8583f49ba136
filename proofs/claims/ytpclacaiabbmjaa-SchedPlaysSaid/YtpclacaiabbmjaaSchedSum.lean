/- What all that stand there come to, by any measure of each: nobody is lost or there twice, whoever is made ready or picked. -/
import Derived.Test.YtpclacaiabbmjaaSchedLast
namespace Go.Proofs.Ytpclacaiabbmjaa
open Go.RowKit Go.Lib Fx Ho Gr
set_option linter.unusedVariables false
namespace Sd
variable {R : List Rg} {C : List Int} {f : Int → Nat}
/-- The sum of a measure over a list. -/
def fs (f : Int → Nat) : List Int → Nat
  | [] => 0
  | g :: L => f g + fs f L
theorem fs_app (f : Int → Nat) : ∀ A B : List Int, fs f (A ++ B) = fs f A + fs f B
  | [], B => by simp [fs]
  | g :: A, B => by show f g + fs f (A ++ B) = f g + fs f A + fs f B; rw [fs_app f A B]; omega
theorem fs_cut (f : Int → Nat) (n : Nat) (L : List Int) : fs f (L.take n) + fs f (L.drop n) = fs f L := by
  rw [← fs_app, List.take_append_drop]
theorem fs_one : ∀ L : List Int, fs (fun _ => 1) L = L.length
  | [] => rfl
  | g :: L => by show 1 + fs _ L = L.length + 1; rw [fs_one L]; omega
/-- How often x stands there. -/
def is (x : Int) : Int → Nat := fun g => if g = x then 1 else 0
theorem fs_in {x : Int} : ∀ {L : List Int}, 0 < fs (is x) L → x ∈ L
  | [], h => by simp [fs] at h
  | g :: L, h => by
    by_cases e : g = x
    · subst e; simp
    · have : fs (is x) L = fs (is x) (g :: L) := by show _ = (if g = x then 1 else 0) + _; rw [if_neg e]; omega
      exact List.mem_cons_of_mem _ (fs_in (by omega))
theorem fs_mem {x : Int} : ∀ {L : List Int}, x ∈ L → 0 < fs (is x) L
  | g :: L, h => by
    show 0 < (if g = x then 1 else 0) + fs (is x) L
    rcases List.mem_cons.1 h with h | h
    · rw [if_pos h.symm]; omega
    · have := fs_mem h; omega
/-- Over the first k rings. -/
def fr (f : Int → Nat) (R : List Rg) : Nat → Nat
  | 0 => 0
  | k + 1 => fr f R k + fs f (rAll (R.getD k rg0))
/-- Over all of them. -/
def fa (f : Int → Nat) (R : List Rg) (C : List Int) : Nat := fr f R R.length + fs f C
theorem fr_one (R : List Rg) : ∀ k, fr (fun _ => 1) R k = sumR R k
  | 0 => rfl
  | k + 1 => by show fr _ R k + fs _ _ = sumR R k + _; rw [fr_one R k, fs_one]
theorem gd_set {R : List Rg} {i j : Nat} {r : Rg} (hi : i < R.length) : (R.set i r).getD j rg0 = if i = j then r else R.getD j rg0 := by
  rw [List.getD_eq_getElem?_getD, List.getD_eq_getElem?_getD, List.getElem?_set]
  by_cases e : i = j
  · subst e; rw [if_pos rfl, if_pos hi, if_pos rfl]; rfl
  · rw [if_neg e, if_neg e]
theorem fr_set {i : Nat} {r : Rg} (hi : i < R.length) : ∀ k, fr f (R.set i r) k + (if i < k then fs f (rAll (R.getD i rg0)) else 0) = fr f R k + (if i < k then fs f (rAll r) else 0)
  | 0 => by simp [fr]
  | k + 1 => by
    have h := fr_set (r := r) hi k
    show fr f (R.set i r) k + fs f (rAll ((R.set i r).getD k rg0)) + _ = fr f R k + fs f (rAll (R.getD k rg0)) + _
    rw [gd_set hi]
    by_cases e : i = k
    · subst e
      rw [if_neg (by omega), if_neg (by omega)] at h
      rw [if_pos rfl, if_pos (by omega), if_pos (by omega)]; omega
    · rw [if_neg e]
      by_cases h2 : i < k
      · rw [if_pos h2, if_pos h2] at h
        rw [if_pos (by omega), if_pos (by omega)]; omega
      · rw [if_neg h2, if_neg h2] at h
        rw [if_neg (by omega), if_neg (by omega)]; omega
theorem fa_set {i : Nat} {r : Rg} {C' : List Int} (hi : i < R.length) : fa f (R.set i r) C' + fs f (rAll (R.getD i rg0)) + fs f C = fa f R C + fs f (rAll r) + fs f C' := by
  have h := fr_set (r := r) (f := f) hi R.length
  rw [if_pos hi, if_pos hi] at h
  unfold fa
  rw [List.length_set]; omega
theorem all_eq (nx : Option Int) (L : List Int) : rAll (nx, L) = nx.toList ++ L := by cases nx <;> rfl
theorem rput_fs (r : Rg) (g : Int) (next : Bool) : fs f (rAll (rPut r g next).1) + fs f (rPut r g next).2 = f g + fs f (rAll r) := by
  have row : ∀ (nx : Option Int) (L : List Int) (g : Int), fs f (rAll (rRow nx L g).1) + fs f (rRow nx L g).2 = f g + fs f (rAll (nx, L)) := fun nx L g => by
    unfold rRow
    split
    · simp only [all_eq, fs_app]; simp [fs]; omega
    · have := fs_cut f 128 L
      simp only [all_eq, fs_app]; simp [fs]; omega
  obtain ⟨nx, L⟩ := r
  cases next with
  | false => exact row nx L g
  | true => cases nx with
    | none => simp only [rPut, all_eq, fs_app]; simp [fs]
    | some o =>
      have := row (some g) L o
      simp only [rPut]
      rw [this]; simp only [all_eq, fs_app]; simp [fs]; omega
theorem rget_fs {r r' : Rg} {g : Int} (h : rGet r = (some g, r')) : fs f (rAll r) = f g + fs f (rAll r') := by
  unfold rGet at h
  split at h
  · cases h
  · rename_i x T e
    cases h
    rw [e]; rfl
theorem rsteal_fs (r o : Rg) : fs f (rAll (rSteal r o).1) + fs f (rAll (rSteal r o).2) = fs f (rAll r) + fs f (rAll o) := by
  obtain ⟨nx, L⟩ := r
  obtain ⟨ny, M⟩ := o
  have gen : ∀ n, fs f (rAll (nx, L ++ M.take n)) + fs f (rAll (ny, M.drop n)) = fs f (rAll (nx, L)) + fs f (rAll (ny, M)) := fun n => by
    have := fs_cut f n M
    simp only [all_eq, fs_app]; omega
  unfold rSteal
  split
  · rename_i y e1 e2
    change M = [] at e1
    change ny = some y at e2
    subst e1 e2
    split
    · simp only [all_eq, fs_app]; simp [fs]; omega
    · rfl
  · exact gen _
theorem take_fs {i m : Nat} {g : Int} {R' : List Rg} {C' : List Int} (hi : i < R.length) (hm : m ≤ 1 ∨ R.getD i rg0 = rg0) (h : takeS R C i m = (some g, R', C')) : fa f R C = f g + fa f R' C' := by
  unfold takeS at h
  have hc := fs_cut f (qN C R.length m) C
  split at h
  · cases h
  · rename_i x T e
    cases h
    rw [e] at hc
    simp only [fs] at hc
    unfold setT
    split
    · rename_i e2
      subst e2
      unfold fa; simp only [fs] at hc; omega
    · rename_i hT
      have hr : R.getD i rg0 = rg0 := hm.resolve_left (fun h1 => by
        have h2 : (List.take (qN C R.length m) C).length ≤ 1 := by rw [List.length_take]; unfold qN; omega
        rw [e] at h2
        cases T with
        | nil => exact hT rfl
        | cons a b => simp at h2)
      have := fa_set (f := f) (r := (none, T)) (C := C) (C' := C.drop (qN C R.length m)) hi
      rw [hr, show fs f (rAll rg0) = 0 from rfl, show fs f (rAll (none, T)) = fs f T from rfl] at this
      omega
theorem steal_fs (i : Nat) (v : Int) (hi : i < R.length) : fa f (stealR R i v) C = fa f R C := by
  unfold stealR
  split
  · rename_i hv
    have hvn : v.toNat < R.length := by omega
    have hne : i ≠ v.toNat := by omega
    have h1 := fa_set (f := f) (r := (rSteal (R.getD i rg0) (R.getD v.toNat rg0)).1) (C := C) (C' := C) hi
    have h2 := fa_set (R := R.set i (rSteal (R.getD i rg0) (R.getD v.toNat rg0)).1) (f := f) (r := (rSteal (R.getD i rg0) (R.getD v.toNat rg0)).2) (C := C) (C' := C) (i := v.toNat) (by rw [List.length_set]; exact hvn)
    rw [gd_set hi, if_neg hne] at h2
    have h3 := rsteal_fs (f := f) (R.getD i rg0) (R.getD v.toNat rg0)
    omega
  · rfl
theorem turn_fs {i : Nat} {t : Int} {g : Int} {R' : List Rg} {C' : List Int} (hi : i < R.length) (h : turnS R C i t = (some g, R', C')) : fa f R C = f g + fa f R' C' := by
  unfold turnS at h
  split at h
  · cases h
  · exact take_fs hi (.inl (Nat.le_refl _)) h
theorem set_fs {i : Nat} {g : Int} {r : Rg} (hi : i < R.length) (h : rGet (R.getD i rg0) = (some g, r)) : fa f R C = f g + fa f (R.set i r) C := by
  have h1 := fa_set (f := f) (r := r) (C := C) (C' := C) hi
  have h2 := rget_fs (f := f) h
  omega
/-- Who is picked goes, and nobody else. -/
theorem pick_fs {i : Nat} {t v g : Int} {R' : List Rg} {C' : List Int} (hi : i < R.length) (h : pickS R C i t v = (some g, R', C')) : fa f R C = f g + fa f R' C' := by
  unfold pickS at h
  split at h
  · rename_i x R1 C1 e
    cases h
    exact turn_fs hi e
  · split at h
    · rename_i x r e
      cases h
      exact set_fs hi e
    · rename_i r e
      have hr := rget_none (r := R.getD i rg0) (by rw [e])
      split at h
      · rename_i x R1 C1 e2
        cases h
        exact take_fs hi (.inr hr.1) e2
      · have h1 := congrArg Prod.fst h
        have h2 := congrArg (fun x => x.2.1) h
        have h3 := congrArg (fun x => x.2.2) h
        simp only at h1 h2 h3
        subst h2 h3
        rw [← steal_fs (f := f) (C := C) i v hi]
        refine set_fs (by rw [stealR_len]; exact hi) ?_
        rw [← h1]
theorem qn_pos {ps : Nat} (h : C ≠ []) : 0 < qN C ps 64 := by
  have : 0 < C.length := List.length_pos_iff.2 h
  unfold qN
  generalize C.length / ps = q at *
  omega
/-- Nobody is picked: there is nobody in common, at i, or at the victim; all is as it was. -/
theorem pick_nobody {i : Nat} {t v : Int} (hi : i < R.length) (h : (pickS R C i t v).1 = none) : (pickS R C i t v).2 = (R, C) ∧ C = [] ∧ R.getD i rg0 = rg0 ∧ ∀ j : Nat, v = (j : Int) → j < R.length → R.getD j rg0 = rg0 := by
  have key : ∀ a, a ≤ 3 → (∀ b, b < a → (seekS R C i t v b).1 = none) → (seekS R C i t v a).1 = none := fun a ha hno => by
    cases e : (seekS R C i t v a).1 with
    | none => rfl
    | some g => rw [pick_yes ha hno e, e] at h; cases h
  have k0 := key 0 (by omega) (fun b hb => by omega)
  have k1 := key 1 (by omega) (fun b hb => by obtain rfl : b = 0 := by omega
                                              exact k0)
  have k2 := key 2 (by omega) (fun b hb => by rcases (show b = 0 ∨ b = 1 by omega) with rfl | rfl; exact k0; exact k1)
  have hp := pick_no (R := R) (C := C) (i := i) (t := t) (v := v) (fun b hb => by rcases (show b = 0 ∨ b = 1 ∨ b = 2 by omega) with rfl | rfl | rfl; exact k0; exact k1; exact k2)
  rw [hp] at h ⊢
  have hr := rget_none (r := R.getD i rg0) k1
  have hC : C = [] := by
    by_cases hc : C = []
    · exact hc
    · have hq := qn_pos (ps := R.length) hc
      have e2 : (takeS R C i 64).1 = none := k2
      unfold takeS at e2
      split at e2
      · rename_i e3
        have := congrArg List.length e3
        rw [List.length_take] at this
        have h0 : 0 < C.length := List.length_pos_iff.2 hc
        simp only [List.length_nil] at this; omega
      · cases e2
  have h1 : (rGet ((stealR R i v).getD i rg0)).1 = none := h
  obtain ⟨g1, g2⟩ := rget_none h1
  have key : stealR R i v = R ∧ ∀ j : Nat, v = (j : Int) → j < R.length → R.getD j rg0 = rg0 := by
    by_cases hv : 0 ≤ v ∧ v < (R.length : Int) ∧ v.toNat ≠ i
    · obtain ⟨j, rfl⟩ : ∃ j : Nat, v = (j : Int) := ⟨v.toNat, by omega⟩
      have hj : j < R.length := by omega
      have hne : i ≠ j := by omega
      have hs : stealR R i j = (R.set i (rSteal (R.getD i rg0) (R.getD j rg0)).1).set j (rSteal (R.getD i rg0) (R.getD j rg0)).2 := by
        unfold stealR; rw [if_pos hv]; rfl
      rw [hs, gd_set (by rw [List.length_set]; exact hj), if_neg (fun e => hne e.symm), gd_set hi, if_pos rfl, hr.1] at g1
      have hz : R.getD j rg0 = rg0 := by
        generalize R.getD j rg0 = o at *
        obtain ⟨ny, M⟩ := o
        cases M with
        | nil => cases ny with
          | none => rfl
          | some y => exact absurd (congrArg (fun x : Rg => x.2) g1) (by simp [rSteal, rg0])
        | cons a M =>
          have := congrArg (fun x : Rg => x.2.length) g1
          simp [rSteal, rg0] at this
          omega
      refine ⟨?_, fun j' e _ => by obtain rfl : j = j' := by omega
                                   exact hz⟩
      rw [hs, hr.1, hz]
      show (R.set i rg0).set j rg0 = R
      have := set_self hi
      rw [hr.1] at this
      rw [this]
      have := set_self hj
      rwa [hz] at this
    · refine ⟨by unfold stealR; rw [if_neg hv], fun j e hj => ?_⟩
      obtain rfl : j = i := by omega
      exact hr.1
  refine ⟨?_, hC, hr.1, key.2⟩
  show ((stealR R i v).set i (rGet ((stealR R i v).getD i rg0)).2, C) = (R, C)
  rw [key.1, hr.2, set_self hi]
/-- Who stands somewhere is found. -/
theorem where_in {g : Int} (h : 0 < fa (is g) R C) : ∃ z : Int, whereV R C g = .tuple #[.int .i64 z, .bool true] := by
  unfold whereV
  split
  · exact ⟨_, rfl⟩
  · rename_i e
    have hno := find_none e
    have h0 : ∀ k, k ≤ R.length → fr (is g) R k = 0 := by
      intro k
      induction k with
      | zero => intro _; rfl
      | succ k ih =>
        intro hk
        show fr _ R k + fs _ _ = 0
        rw [ih (by omega)]
        have := hno k (by omega)
        rcases Nat.eq_zero_or_pos (fs (is g) (rAll (R.getD k rg0))) with h1 | h1
        · omega
        · exact absurd (fs_in h1) this
    have : g ∈ C := fs_in (by unfold fa at h; rw [h0 _ (Nat.le_refl _)] at h; omega)
    rw [if_pos this]; exact ⟨_, rfl⟩
theorem fr_zero : ∀ k, (∀ j, j < k → R.getD j rg0 = rg0) → fr f R k = 0
  | 0, h => rfl
  | k + 1, h => by
    show fr f R k + fs f _ = 0
    rw [fr_zero k (fun j hj => h j (by omega)), h k (by omega)]; rfl
theorem fa_one (R : List Rg) (C : List Int) : fa (fun _ => 1) R C = C.length + sumR R R.length := by unfold fa; rw [fr_one, fs_one]; omega
theorem fa_none (n : Nat) : fa f (List.replicate n rg0) [] = 0 := by
  unfold fa
  rw [fr_zero _ (fun j hj => by rw [List.length_replicate] at hj; rw [List.getD_eq_getElem?_getD, List.getElem?_replicate, if_pos hj]; rfl)]; rfl
theorem pick_len {i : Nat} {t v : Int} : (pickS R C i t v).2.1.length = R.length := by
  unfold pickS
  split
  · rename_i x R1 C1 e
    unfold turnS at e
    split at e
    · cases e
    · unfold takeS at e
      split at e
      · cases e
      · cases e; exact setT_len _ _ _
  · split
    · simp
    · split
      · rename_i x R1 C1 e
        unfold takeS at e
        split at e
        · cases e
        · cases e; exact setT_len _ _ _
      · simp [stealR_len]
end Sd
end Go.Proofs.Ytpclacaiabbmjaa
