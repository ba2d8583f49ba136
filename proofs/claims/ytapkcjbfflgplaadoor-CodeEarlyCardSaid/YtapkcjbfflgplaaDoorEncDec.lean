/- What the bytes of a program that may be mean: the program. -/
import Derived.Test.YtapkcjbfflgplaaDoorREncode
namespace Go.Proofs.YtapkcjbfflgplaaDoor
open Go.RowKit Go.Lib Fx Ho Gr
set_option linter.unusedVariables false
namespace Cd
variable {G nf len n : Int} {fs : List (List Ins)} {zs A : List Int} {l : List Ins} {x : Ins} {i j m p q : Nat}
theorem getD_app (A B : List Int) (t : Nat) : (A ++ B).getD (A.length + t) 0 = B.getD t 0 := by
  rw [List.getD_eq_getElem?_getD, List.getD_eq_getElem?_getD, List.getElem?_append_right (by omega), Nat.add_sub_cancel_left]
/-- The first m bytes are the program's. -/
def Pre (G : Int) (fs : List (List Ins)) (zs : List Int) (m : Nat) : Prop := m ≤ zs.length ∧ m ≤ (enc G fs).length ∧ ∀ t, t < m → zs.getD t 0 = (enc G fs).getD t 0
theorem flat_split {α : Type} (g : α → List Int) (L : List α) (d : α) {i : Nat} (hi : i < L.length) : L.flatMap g = (L.take i).flatMap g ++ (g (L.getD i d) ++ (L.drop (i + 1)).flatMap g) := by
  have e : L = L.take i ++ (L.getD i d :: L.drop (i + 1)) := by
    have h1 : L.drop i = L[i] :: L.drop (i + 1) := List.drop_eq_getElem_cons hi
    rw [List.getD_eq_getElem?_getD, List.getElem?_eq_getElem hi]
    show L = L.take i ++ (L[i] :: L.drop (i + 1))
    rw [← h1, List.take_append_drop]
  conv => lhs; rw [e]
  rw [List.flatMap_append, List.flatMap_cons]
theorem enc_fn (hi : i < fs.length) : enc G fs = encP G fs i ++ (encF (fs.getD i []) ++ (fs.drop (i + 1)).flatMap encF) := by
  unfold enc encP
  rw [flat_split encF fs [] hi]; rfl
theorem enc_in (hi : i < fs.length) (hj : j < (fs.getD i []).length) : ∃ R, enc G fs = encQ G fs i j ++ (encI ((fs.getD i []).getD j zi) ++ R) := by
  refine ⟨((fs.getD i []).drop (j + 1)).flatMap encI ++ (fs.drop (i + 1)).flatMap encF, ?_⟩
  rw [enc_fn hi]
  unfold encQ encF
  rw [flat_split encI (fs.getD i []) zi hj]
  simp only [List.append_assoc, List.cons_append]
theorem encQ_long : (encQ G fs i j).length = (encP G fs i).length + 1 + 4 * (min j (fs.getD i []).length) := by
  unfold encQ
  rw [List.length_append, List.length_cons, encI_len, List.length_take]; omega
theorem enc_le (hi : i < fs.length) : (encP G fs (i + 1)).length ≤ (enc G fs).length := by
  rw [← encQ_all hi, encQ_long, enc_fn hi]
  unfold encF
  rw [List.length_append, List.length_append, List.length_cons, encI_len]; omega
theorem num_is {lo hi z : Int} (h : p < zs.length) (e : zs.getD p 0 = z) (h1 : lo ≤ z) (h2 : z ≤ hi) : num zs p lo hi = .ok z := by
  unfold num; rw [if_pos ⟨h, by rw [e]; exact h1, by rw [e]; exact h2⟩, e]
theorem bind_ok {α β : Type} (a : α) (f : α → Except Nat β) : (Except.ok a).bind f = f a := rfl
/-- The parts of an instruction: as many as stand there are read. -/
theorem inst_parts (hm : MayIs G fs 0) (hi : i < fs.length) (hj : j < (fs.getD i []).length) (hp : Pre G fs zs m) : let q := (encQ G fs i j).length; let x := (fs.getD i []).getD j zi; (q + 1 ≤ m → num zs q 0 17 = .ok x.1) ∧ (q + 2 ≤ m → num zs (q + 1) 0 (bnd G fs.length (fs.getD i []).length (kd x.1.toNat 0) - 1) = .ok x.2.1) ∧ (q + 3 ≤ m → num zs (q + 2) 0 (bnd G fs.length (fs.getD i []).length (kd x.1.toNat 1) - 1) = .ok x.2.2.1) ∧ (q + 4 ≤ m → num zs (q + 3) 0 (bnd G fs.length (fs.getD i []).length (kd x.1.toNat 2) - 1) = .ok x.2.2.2) := by
  intro q x
  rcases hm with ⟨_, hk⟩ | ⟨hk, hok, _⟩ | ⟨_, _, _, _, _, _, _, _, hk⟩
  · cases hk
  case inr.inr => omega
  have ho := hok i hi j hj
  unfold okAt okI hasB at ho
  simp only [Bool.and_eq_true, decide_eq_true_eq] at ho
  obtain ⟨h1, h2, h3, h4⟩ := ho
  obtain ⟨R, hR⟩ := enc_in (G := G) hi hj
  have hx : (fs.getD i []).getD j zi = x := rfl
  rw [hx] at h1 h2 h3 h4 hR
  have at_ : ∀ t, q + t < m → zs.getD (q + t) 0 = (encI x ++ R).getD t 0 := fun t ht => by
    rw [hp.2.2 _ ht, hR, getD_app]
  obtain ⟨hz, _, _⟩ := hp
  refine ⟨fun h => num_is (by omega) (at_ 0 (by omega)) h1.1 (show x.1 ≤ 17 by omega), fun h => num_is (by omega) (at_ 1 (by omega)) h2.1 (show x.2.1 ≤ _ by omega), fun h => num_is (by omega) (at_ 2 (by omega)) h3.1 (show x.2.2.1 ≤ _ by omega), fun h => num_is (by omega) (at_ 3 (by omega)) h4.1 (show x.2.2.2 ≤ _ by omega)⟩
theorem inst_ok (hm : MayIs G fs 0) (hi : i < fs.length) (hj : j < (fs.getD i []).length) (hp : Pre G fs zs m) (h : (encQ G fs i j).length + 4 ≤ m) : instE zs (encQ G fs i j).length G fs.length (fs.getD i []).length = .ok ((fs.getD i []).getD j zi) := by
  obtain ⟨a0, a1, a2, a3⟩ := inst_parts hm hi hj hp
  unfold instE
  rw [a0 (by omega)]
  simp only [bind_ok]
  rw [a1 (by omega)]
  simp only [bind_ok]
  rw [a2 (by omega)]
  simp only [bind_ok]
  rw [a3 (by omega)]
  rfl
theorem ins_ok (hm : MayIs G fs 0) (hi : i < fs.length) (hp : Pre G fs zs m) : ∀ k, k ≤ (fs.getD i []).length → (encQ G fs i k).length ≤ m → insE zs ((encP G fs i).length + 1) G fs.length (fs.getD i []).length k = .ok ((fs.getD i []).take k)
  | 0, _, _ => by simp [insE]
  | k + 1, hk, h => by
    have e1 := encQ_long (G := G) (fs := fs) (i := i) (j := k)
    have e2 := encQ_long (G := G) (fs := fs) (i := i) (j := k + 1)
    rw [Nat.min_eq_left (by omega)] at e1 e2
    unfold insE
    rw [ins_ok hm hi hp k (by omega) (by omega)]
    show (instE zs _ _ _ _).bind _ = _
    have := inst_ok hm hi (j := k) (by omega) hp (by omega)
    rw [e1] at this
    rw [this, take_next _ zi (show k < (fs.getD i []).length by omega)]
    rfl
theorem fn_num (hm : MayIs G fs 0) (hi : i < fs.length) (hp : Pre G fs zs m) (h : (encP G fs i).length + 1 ≤ m) : num zs (encP G fs i).length 1 64 = .ok ((fs.getD i []).length : Int) := by
  rcases hm with ⟨_, hk⟩ | ⟨hk, hok, _⟩ | ⟨_, _, _, _, _, _, _, _, hk⟩
  · cases hk
  case inr.inr => omega
  have hl := hk.2.2.2.2 i hi
  refine num_is (by have := hp.1; omega) ?_ (by omega) (by omega)
  have := hp.2.2 _ (show (encP G fs i).length < m by omega)
  rw [this, enc_fn hi]
  exact getD_app _ _ 0
theorem fn_ok (hm : MayIs G fs 0) (hi : i < fs.length) (hp : Pre G fs zs m) (h : (encP G fs (i + 1)).length ≤ m) : fnE zs (encP G fs i).length G fs.length = .ok (fs.getD i []) := by
  have e1 := encQ_long (G := G) (fs := fs) (i := i) (j := (fs.getD i []).length)
  rw [encQ_all hi] at e1
  unfold fnE
  rw [fn_num hm hi hp (by omega)]
  show insE _ _ _ _ _ (Int.toNat _) = _
  rw [Int.toNat_natCast, ins_ok hm hi hp _ (Nat.le_refl _) (by rw [encQ_all hi]; exact h), List.take_length]
theorem encP_next (hi : i < fs.length) : (encP G fs (i + 1)).length = (encP G fs i).length + 1 + 4 * (fs.getD i []).length := by
  rw [← encQ_all hi, encQ_long, Nat.min_self]
theorem fs_ok (hm : MayIs G fs 0) (hp : Pre G fs zs m) : ∀ i, i ≤ fs.length → (encP G fs i).length ≤ m → fsE zs G fs.length i = .ok (fs.take i, (encP G fs i).length)
  | 0, _, _ => by simp [fsE, encP]
  | i + 1, hi, h => by
    have e := encP_next (G := G) (fs := fs) (i := i) (by omega)
    unfold fsE
    rw [fs_ok hm hp i (by omega) (by omega)]
    show (fnE zs (encP G fs i).length G fs.length).bind _ = _
    rw [fn_ok hm (by omega) hp h]
    show Except.ok (fs.take i ++ [fs.getD i []], (encP G fs i).length + 1 + 4 * (fs.getD i []).length) = _
    rw [← e, take_next _ [] (show i < fs.length by omega)]
theorem two_first (hm : MayIs G fs 0) (hp : Pre G fs zs m) (h : 2 ≤ m) : num zs 0 1 16 = .ok (fs.length : Int) ∧ num zs 1 0 32 = .ok G := by
  rcases hm with ⟨_, hk⟩ | ⟨hk, hok, _⟩ | ⟨_, _, _, _, _, _, _, _, hk⟩
  · cases hk
  case inr.inr => omega
  obtain ⟨h1, h2, h3, h4, _⟩ := hk
  have hz := hp.1
  exact ⟨num_is (by omega) (hp.2.2 0 (by omega)) (show (1 : Int) ≤ (fs.length : Int) by omega) (show (fs.length : Int) ≤ 16 by omega), num_is (by omega) (hp.2.2 1 (by omega)) h3 h4⟩
theorem enc_two : 2 ≤ (enc G fs).length := by unfold enc; simp
/-- All of it, and perhaps more. -/
theorem prog_enc (hm : MayIs G fs 0) (hp : Pre G fs zs (enc G fs).length) : progE zs = if (enc G fs).length < zs.length then .error (enc G fs).length else .ok (G, fs) := by
  obtain ⟨a0, a1⟩ := two_first hm hp enc_two
  unfold progE
  rw [a0]
  simp only [bind_ok]
  rw [a1]
  simp only [bind_ok]
  rw [Int.toNat_natCast, fs_ok hm hp fs.length (Nat.le_refl _) (by rw [encP_all]; exact Nat.le_refl _), encP_all, List.take_length]
  rfl
/-- What is wrong in an instruction is told, whatever stands behind it. -/
theorem prog_early (hm : MayIs G fs 0) (hi : i < fs.length) (hj : j < (fs.getD i []).length) (hp : Pre G fs zs m) (h : (encQ G fs i j).length ≤ m) (he : instE zs (encQ G fs i j).length G fs.length (fs.getD i []).length = .error q) : progE zs = .error q := by
  have e1 := encQ_long (G := G) (fs := fs) (i := i) (j := j)
  rw [Nat.min_eq_left (by omega)] at e1
  have h2 : 2 ≤ (encP G fs i).length := by unfold encP; simp
  obtain ⟨a0, a1⟩ := two_first hm hp (by omega)
  have hin : insE zs ((encP G fs i).length + 1) G fs.length (fs.getD i []).length (j + 1) = .error q := by
    unfold insE
    rw [ins_ok hm hi hp j (by omega) h]
    show (instE zs _ _ _ _).bind _ = _
    rw [← e1, he]; rfl
  have hfn : fnE zs (encP G fs i).length G fs.length = .error q := by
    unfold fnE
    rw [fn_num hm hi hp (by omega)]
    show insE _ _ _ _ _ (Int.toNat _) = _
    rw [Int.toNat_natCast]
    exact insE_err _ _ (by omega) hin
  have hfs : fsE zs G fs.length (i + 1) = .error q := by
    unfold fsE
    rw [fs_ok hm hp i (by omega) (by omega)]
    show (fnE zs (encP G fs i).length G fs.length).bind _ = _
    rw [hfn]; rfl
  unfold progE
  rw [a0]
  simp only [bind_ok]
  rw [a1]
  simp only [bind_ok]
  rw [Int.toNat_natCast, fsE_err (by omega) hfs]; rfl
theorem prog_long (hm : MayIs G fs 0) (c : Int) : progE (enc G fs ++ [c]) = .error (enc G fs).length := by
  rw [prog_enc hm ⟨by rw [List.length_append]; omega, Nat.le_refl _, fun t ht => by rw [List.getD_eq_getElem?_getD, List.getD_eq_getElem?_getD, List.getElem?_append_left ht]⟩, if_pos (by rw [List.length_append]; simp)]
theorem prog_whole (hm : MayIs G fs 0) : progE (enc G fs) = .ok (G, fs) := by
  rw [prog_enc hm ⟨Nat.le_refl _, Nat.le_refl _, fun t ht => rfl⟩, if_neg (Nat.lt_irrefl _)]
theorem prog_short (hm : MayIs G fs 0) : progE ((enc G fs).take ((enc G fs).length - 1)) = .error ((enc G fs).length - 1) := by
  have hk : CntOk G fs := by
    rcases hm with ⟨_, hk⟩ | ⟨hk, hok, _⟩ | ⟨_, _, _, _, _, _, _, _, hk⟩
    · cases hk
    · exact hk
    · omega
  have hn := hk.1
  have hi : fs.length - 1 < fs.length := by omega
  have hl := (hk.2.2.2.2 _ hi).1
  have hj : (fs.getD (fs.length - 1) []).length - 1 < (fs.getD (fs.length - 1) []).length := by omega
  have e1 := encQ_long (G := G) (fs := fs) (i := fs.length - 1) (j := (fs.getD (fs.length - 1) []).length - 1)
  have e2 := encP_next (G := G) (fs := fs) hi
  rw [show fs.length - 1 + 1 = fs.length by omega, encP_all] at e2
  rw [Nat.min_eq_left (by omega)] at e1
  have hzl : ((enc G fs).take ((enc G fs).length - 1)).length = (enc G fs).length - 1 := by rw [List.length_take]; omega
  have hp : Pre G fs ((enc G fs).take ((enc G fs).length - 1)) ((enc G fs).length - 1) := ⟨by rw [hzl]; exact Nat.le_refl _, by omega, fun t ht => by rw [List.getD_eq_getElem?_getD, List.getD_eq_getElem?_getD, List.getElem?_take, if_pos ht]⟩
  refine prog_early hm hi hj hp (by omega) ?_
  obtain ⟨a0, a1, a2, _⟩ := inst_parts hm hi hj hp
  unfold instE
  rw [a0 (by omega)]
  simp only [bind_ok]
  rw [a1 (by omega)]
  simp only [bind_ok]
  rw [a2 (by omega)]
  simp only [bind_ok]
  have : num ((enc G fs).take ((enc G fs).length - 1)) ((encQ G fs (fs.length - 1) ((fs.getD (fs.length - 1) []).length - 1)).length + 3) 0 (bnd G fs.length (fs.getD (fs.length - 1) []).length (kd ((fs.getD (fs.length - 1) []).getD ((fs.getD (fs.length - 1) []).length - 1) zi).1.toNat 2) - 1) = .error ((enc G fs).length - 1) := by
    unfold num
    rw [if_neg (fun h => by have := h.1; rw [hzl] at this; omega)]
    congr 1; omega
  rw [this]; rfl
theorem enc_seven (hm : MayIs G fs 0) : 7 ≤ (enc G fs).length ∧ (enc G fs).length ≤ 5000 := by
  have hk : CntOk G fs := by
    rcases hm with ⟨_, hk⟩ | ⟨hk, hok, _⟩ | ⟨_, _, _, _, _, _, _, _, hk⟩
    · cases hk
    · exact hk
    · omega
  have h1 := encP_len hk fs.length (Nat.le_refl _)
  rw [encP_all] at h1
  have h2 := hk.2.1
  have e2 := encP_next (G := G) (fs := fs) (i := 0) (by have := hk.1; omega)
  have h3 := enc_le (G := G) (fs := fs) (i := 0) (by have := hk.1; omega)
  have h4 := (hk.2.2.2.2 0 (by have := hk.1; omega)).1
  have h5 : (encP G fs 0).length = 2 := by unfold encP; simp
  omega
end Cd
end Go.Proofs.YtapkcjbfflgplaaDoor
