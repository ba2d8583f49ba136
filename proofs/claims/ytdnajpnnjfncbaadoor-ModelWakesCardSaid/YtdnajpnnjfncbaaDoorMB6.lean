import Derived.Test.YtdnajpnnjfncbaaDoorMB5
/- ModelWakes: its program, step by step. -/
namespace Go.Proofs.YtdnajpnnjfncbaaDoor
open Go.RowKit Go.Lib Fx Ho Gr
set_option linter.unusedVariables false
namespace Md
open Cd (Ins zi ca c4 okI hasB bnd kd okAt)
variable {k n i m g pc : Nat} {l : List Int}
def lS : Nat → List Ins
  | 0 => []
  | i + 1 => lS i ++ [(8, 1, 0, 0)]
theorem lS_rep : ∀ i, lS i = List.replicate i (8, 1, 0, 0)
  | 0 => rfl
  | i + 1 => by unfold lS; rw [lS_rep i, List.replicate_succ']
def lW (L : List Ins) : Nat → List Ins
  | 0 => L
  | i + 1 => lW L i ++ [(12, 3, 0, 0)]
theorem lW_rep (L : List Ins) : ∀ i, lW L i = L ++ List.replicate i (12, 3, 0, 0)
  | 0 => by simp [lW]
  | i + 1 => by unfold lW; rw [lW_rep L i, List.append_assoc, List.replicate_succ']
def lB : List Ins := [(11, 3, 0, 0)]
def fsW (k n : Nat) : List (List Ins) := [lW (lS k) n ++ lB, lB]
theorem fsW_eq (k n : Nat) : lW (lS k) n ++ lB = List.replicate k (8, 1, 0, 0) ++ (List.replicate n (12, 3, 0, 0) ++ lB) := by rw [lW_rep, lS_rep, List.append_assoc]
theorem lS_len (i : Nat) : (lS i).length = i := by rw [lS_rep, List.length_replicate]
theorem lW_len (k n : Nat) : (lW (lS k) n).length = k + n := by rw [lW_rep, List.length_append, lS_len, List.length_replicate]
theorem pgW (h1 : 1 ≤ k) (hk : k ≤ 20) (hn : n ≤ 24) : Pg 0 (fsW k n) := by
  have hl : (lW (lS k) n ++ lB).length = k + n + 1 := by rw [List.length_append, lW_len]; rfl
  refine pg_two (by omega) (by omega) (by omega) ⟨by decide, by decide⟩ (fun x hx => ?_) (fun x hx => ?_)
  · rw [hl]
    rw [fsW_eq] at hx
    rcases List.mem_append.1 hx with e | e
    · rw [List.eq_of_mem_replicate e]; simp [okI, hasB, bnd, kd, Cd.kinds]
    · rcases List.mem_append.1 e with e | e
      · rw [List.eq_of_mem_replicate e]; simp [okI, hasB, bnd, kd, Cd.kinds]
      · rw [List.mem_singleton.1 e]; simp [okI, hasB, bnd, kd, Cd.kinds]
  · rw [List.mem_singleton.1 hx]; simp [okI, hasB, bnd, kd, Cd.kinds]
theorem rep_at {α : Type} {a d : α} {m j : Nat} (h : j < m) (t : List α) : (List.replicate m a ++ t).getD j d = a := by
  rw [getD_app1 _ (by rw [List.length_replicate]; exact h), List.getD_eq_getElem?_getD, List.getElem?_replicate, if_pos h]; rfl
theorem rep_get {α : Type} {a b d : α} (m : Nat) (t : List α) : (List.replicate m a ++ b :: t).getD m d = b := by
  rw [List.getD_eq_getElem?_getD, List.getElem?_append_right (by rw [List.length_replicate]; exact Nat.le_refl _), List.length_replicate, Nat.sub_self]; rfl
theorem rep_set {α : Type} {a b c : α} (m : Nat) (t : List α) : (List.replicate m a ++ b :: t).set m c = List.replicate m a ++ c :: t := by
  rw [List.set_append_right _ _ (by rw [List.length_replicate]; exact Nat.le_refl _), List.length_replicate, Nat.sub_self]; rfl
theorem rep_more {α : Type} {a : α} (m : Nat) (t : List α) : List.replicate m a ++ a :: t = List.replicate (m + 1) a ++ t := by
  rw [List.replicate_succ', List.append_assoc]; rfl
def z16 : List Int := List.replicate 16 0
def gW (pc : Nat) : Gor := ⟨1, pc, 0, z16⟩
def wzA (l : List Int) : Nat → List Int := fun j => if j = 3 then l else []
theorem wzA_upd (l x : List Int) : Wt.upd (wzA l) 3 x = wzA x := by
  funext j
  unfold Wt.upd wzA
  split <;> rfl
theorem wzA_nil : wzA [] = fun _ => [] := by funext j; unfold wzA; split <;> rfl
def mW (pc : Nat) (gs : List Gor) (s0 : Int) (st : List Int) (l : List Int) : Mo := ⟨⟨0, pc, 0, z16⟩ :: gs, s0 :: st, [], [], 0, [], 0, wzA l⟩
theorem mW0 : mo0 0 = mW 0 [] 1 [] [] := by unfold mW; rw [wzA_nil]; rfl
theorem insW0 {gs : List Gor} {s0 : Int} {st : List Int} {x : Ins} (h : pc < k + n + 1) (hx : (List.replicate k ((8, 1, 0, 0) : Ins) ++ (List.replicate n (12, 3, 0, 0) ++ lB)).getD pc zi = x) : insAt (fsW k n) (mW pc gs s0 st l) 0 = x := by
  show (if pc < (lW (lS k) n ++ lB).length then (lW (lS k) n ++ lB).getD pc zi else zi) = x
  rw [if_pos (by rw [List.length_append, lW_len]; exact h), fsW_eq, hx]
/-- The numbers from m + 1 on, so many. -/
def nums (m c : Nat) : List Int := (List.range' (m + 1) c).map (fun x : Nat => (x : Int))
theorem nums_cons (m c : Nat) : nums m (c + 1) = ((m + 1 : Nat) : Int) :: nums (m + 1) c := by unfold nums; rw [List.range'_succ]; rfl
theorem nums_app (c : Nat) : nums 0 (c + 1) = nums 0 c ++ [((c + 1 : Nat) : Int)] := by
  unfold nums
  rw [List.range'_concat, List.map_append]
  simp [Nat.add_comm]
/-- Spawn, and who was begun waits. -/
theorem stW1 (h : i < k) (hk : k ≤ 20) : step (fsW k n) (mW i (List.replicate i (gW 1)) 1 (List.replicate i 3) (nums 0 i)) 0 = mW (i + 1) (List.replicate i (gW 1) ++ [gW 0]) 1 (List.replicate i 3 ++ [1]) (nums 0 i) ∧ comM (fsW k n) (mW i (List.replicate i (gW 1)) 1 (List.replicate i 3) (nums 0 i)) 0 = comV 0 0 i 8 (i + 1 : Nat) false := by
  have hi := insW0 (k := k) (n := n) (pc := i) (gs := List.replicate i (gW 1)) (s0 := 1) (st := List.replicate i 3) (l := nums 0 i) (by omega) (rep_at h _)
  have ho : outI (fsW k n) (mW i (List.replicate i (gW 1)) 1 (List.replicate i 3) (nums 0 i)) 0 = (⟨⟨0, i + 1, 0, z16⟩ :: (List.replicate i (gW 1) ++ [gW 0]), 2 :: (List.replicate i 3 ++ [1]), [], [], 0, [], 0, wzA (nums 0 i)⟩, ((2 :: List.replicate i (3 : Int)).length : Int), 1, false) := by
    unfold outI
    rw [hi]
    show (if (2 :: List.replicate i (3 : Int)).length < 1024 then _ else _) = _
    rw [if_pos (by rw [List.length_cons, List.length_replicate]; omega)]; rfl
  rw [List.length_cons, List.length_replicate] at ho
  refine ⟨by unfold step; rw [ho]; rfl, by unfold comM; rw [ho, hi]; rfl⟩
theorem stW2 : step (fsW k n) (mW (i + 1) (List.replicate i (gW 1) ++ [gW 0]) 1 (List.replicate i 3 ++ [1]) (nums 0 i)) (i + 1) = mW (i + 1) (List.replicate (i + 1) (gW 1)) 1 (List.replicate (i + 1) 3) (nums 0 (i + 1)) := by
  have hg : (mW (i + 1) (List.replicate i (gW 1) ++ [gW 0]) 1 (List.replicate i 3 ++ [1]) (nums 0 i)).gs.getD (i + 1) g0 = gW 0 := by
    show (List.replicate i (gW 1) ++ [gW 0]).getD i g0 = _
    exact rep_get i []
  have hi : insAt (fsW k n) (mW (i + 1) (List.replicate i (gW 1) ++ [gW 0]) 1 (List.replicate i 3 ++ [1]) (nums 0 i)) (i + 1) = (11, 3, 0, 0) := by
    unfold insAt; rw [hg]; rfl
  have hd : doM (mW (i + 1) (List.replicate i (gW 1) ++ [gW 0]) 1 (List.replicate i 3 ++ [1]) (nums 0 i)) (i + 1) = mW (i + 1) (List.replicate (i + 1) (gW 1)) 1 (List.replicate i 3 ++ [2]) (nums 0 i) := by
    unfold doM
    rw [hg]
    show (⟨⟨0, i + 1, 0, z16⟩ :: (List.replicate i (gW 1) ++ [gW 0]).set i (gW 1), 1 :: (List.replicate i (3 : Int) ++ [1]).set i 2, [], [], 0, [], 0, wzA (nums 0 i)⟩ : Mo) = _
    rw [rep_set, rep_set, rep_more, List.append_nil]; rfl
  have ho : outI (fsW k n) (mW (i + 1) (List.replicate i (gW 1) ++ [gW 0]) 1 (List.replicate i 3 ++ [1]) (nums 0 i)) (i + 1) = ({ mW (i + 1) (List.replicate (i + 1) (gW 1)) 1 (List.replicate i 3 ++ [2]) (nums 0 i) with wz := Wt.upd (wzA (nums 0 i)) 3 (nums 0 i ++ [((i + 1 : Nat) : Int)]) }, 0, 3, false) := by
    unfold outI; rw [hi, hd]; rfl
  rw [wzA_upd, ← nums_app] at ho
  unfold step
  rw [ho]
  show (⟨⟨0, i + 1, 0, z16⟩ :: List.replicate (i + 1) (gW 1), 1 :: (List.replicate i (3 : Int) ++ [2]).set i 3, [], [], 0, [], 0, wzA (nums 0 (i + 1))⟩ : Mo) = _
  rw [rep_set, rep_more, List.append_nil]; rfl
/-- A wake. -/
theorem stW3 (hm : i = m) (h : m < k) (hi2 : i < n) : step (fsW k n) (mW (k + i) (List.replicate k (gW 1)) 1 (List.replicate m 1 ++ List.replicate (k - m) 3) (nums m (k - m))) 0 = mW (k + (i + 1)) (List.replicate k (gW 1)) 1 (List.replicate (m + 1) 1 ++ List.replicate (k - (m + 1)) 3) (nums (m + 1) (k - (m + 1))) ∧ comM (fsW k n) (mW (k + i) (List.replicate k (gW 1)) 1 (List.replicate m 1 ++ List.replicate (k - m) 3) (nums m (k - m))) 0 = comV 0 0 (k + i : Nat) 12 (m + 1 : Nat) false := by
  obtain ⟨c, hc⟩ : ∃ c, k - m = c + 1 := ⟨k - m - 1, by omega⟩
  have hc2 : k - (m + 1) = c := by omega
  rw [hc, hc2, nums_cons]
  have hi := insW0 (k := k) (n := n) (pc := k + i) (gs := List.replicate k (gW 1)) (s0 := 1) (st := List.replicate m 1 ++ List.replicate (c + 1) 3) (l := ((m + 1 : Nat) : Int) :: nums (m + 1) c) (x := (12, 3, 0, 0)) (by omega) (by
    rw [List.getD_eq_getElem?_getD, List.getElem?_append_right (by rw [List.length_replicate]; omega), List.length_replicate, show k + i - k = i by omega, ← List.getD_eq_getElem?_getD]
    exact rep_at hi2 _)
  have ho : outI (fsW k n) (mW (k + i) (List.replicate k (gW 1)) 1 (List.replicate m 1 ++ List.replicate (c + 1) 3) (((m + 1 : Nat) : Int) :: nums (m + 1) c)) 0 = (⟨⟨0, k + i + 1, 0, z16⟩ :: List.replicate k (gW 1), 2 :: (List.replicate m (1 : Int) ++ List.replicate (c + 1) 3).set m 1, [], [], 0, [], 0, Wt.upd (wzA (((m + 1 : Nat) : Int) :: nums (m + 1) c)) 3 (nums (m + 1) c)⟩, ((m + 1 : Nat) : Int), 1, false) := by
    unfold outI; rw [hi]; rfl
  rw [wzA_upd, List.replicate_succ, rep_set, rep_more] at ho
  rw [List.replicate_succ]
  refine ⟨by unfold step; rw [ho]; rfl, by unfold comM; rw [ho]; rw [List.replicate_succ] at hi; rw [hi]; rfl⟩
theorem stW4 (h : i < n) : step (fsW k n) (mW (k + i) (List.replicate k (gW 1)) 1 (List.replicate k 1) []) 0 = mW (k + (i + 1)) (List.replicate k (gW 1)) 1 (List.replicate k 1) [] ∧ comM (fsW k n) (mW (k + i) (List.replicate k (gW 1)) 1 (List.replicate k 1) []) 0 = comV 0 0 (k + i : Nat) 12 (-1) false := by
  have hi := insW0 (k := k) (n := n) (pc := k + i) (gs := List.replicate k (gW 1)) (s0 := 1) (st := List.replicate k 1) (l := []) (x := (12, 3, 0, 0)) (by omega) (by
    rw [List.getD_eq_getElem?_getD, List.getElem?_append_right (by rw [List.length_replicate]; omega), List.length_replicate, show k + i - k = i by omega, ← List.getD_eq_getElem?_getD]
    exact rep_at h _)
  have ho : outI (fsW k n) (mW (k + i) (List.replicate k (gW 1)) 1 (List.replicate k 1) []) 0 = (⟨⟨0, k + i + 1, 0, z16⟩ :: List.replicate k (gW 1), 2 :: List.replicate k 1, [], [], 0, [], 0, wzA []⟩, -1, 1, false) := by
    unfold outI; rw [hi]; rfl
  refine ⟨by unfold step; rw [ho]; rfl, by unfold comM; rw [ho, hi]; rfl⟩
/-- The model behind i wakes. -/
def mB (k i : Nat) : Mo := mW (k + i) (List.replicate k (gW 1)) 1 (List.replicate (min i k) 1 ++ List.replicate (k - min i k) 3) (nums (min i k) (k - min i k))
theorem mB_step (h : i < n) : step (fsW k n) (mB k i) 0 = mB k (i + 1) ∧ comM (fsW k n) (mB k i) 0 = comV 0 0 (k + i : Nat) 12 (if i < k then ((i + 1 : Nat) : Int) else -1) false := by
  unfold mB
  by_cases hk : i < k
  · rw [if_pos hk, show min i k = i by omega, show min (i + 1) k = i + 1 by omega]
    exact stW3 rfl hk h
  · rw [if_neg hk, show min i k = k by omega, show min (i + 1) k = k by omega, Nat.sub_self]
    have e : nums k 0 = [] := rfl
    rw [e]
    simp only [List.replicate_zero, List.append_nil]
    exact stW4 h
theorem mB_st (hk : i < k) : (mB k (i + 1)).st.getD (i + 1) 0 = 1 ∧ (mB k i).st.length = k + 1 := by
  refine ⟨?_, ?_⟩
  · show (List.replicate (min (i + 1) k) (1 : Int) ++ List.replicate (k - min (i + 1) k) 3).getD i 0 = 1
    exact rep_at (by omega) _
  · show (List.replicate (min i k) (1 : Int) ++ List.replicate (k - min i k) 3).length + 1 = k + 1
    rw [List.length_append, List.length_replicate, List.length_replicate]; omega
/-- The first goroutine waits, too; so many of the others have come to their ends. -/
def mD (k n g : Nat) : Mo := mW (k + n + 1) (List.replicate g (gW 2) ++ List.replicate (k - g) (gW 1)) 3 (List.replicate g 5 ++ (List.replicate (min n k - g) 1 ++ List.replicate (k - min n k) 3)) (nums (min n k) (k - min n k) ++ [0])
theorem mD_first : step (fsW k n) (mB k n) 0 = mD k n 0 := by
  unfold mB mD
  have hi := insW0 (k := k) (n := n) (pc := k + n) (gs := List.replicate k (gW 1)) (s0 := 1) (st := List.replicate (min n k) 1 ++ List.replicate (k - min n k) 3) (l := nums (min n k) (k - min n k)) (x := (11, 3, 0, 0)) (by omega) (by
    rw [List.getD_eq_getElem?_getD, List.getElem?_append_right (by rw [List.length_replicate]; omega), List.length_replicate, show k + n - k = n by omega, ← List.getD_eq_getElem?_getD]
    exact rep_get n [])
  have ho : outI (fsW k n) (mW (k + n) (List.replicate k (gW 1)) 1 (List.replicate (min n k) 1 ++ List.replicate (k - min n k) 3) (nums (min n k) (k - min n k))) 0 = (⟨⟨0, k + n + 1, 0, z16⟩ :: List.replicate k (gW 1), 2 :: (List.replicate (min n k) 1 ++ List.replicate (k - min n k) 3), [], [], 0, [], 0, Wt.upd (wzA (nums (min n k) (k - min n k))) 3 (nums (min n k) (k - min n k) ++ [0])⟩, 0, 3, false) := by
    unfold outI; rw [hi]; rfl
  rw [wzA_upd] at ho
  unfold step
  rw [ho]; rfl
theorem mD_step (h : g < min n k) : step (fsW k n) (mD k n g) (g + 1) = mD k n (g + 1) ∧ (mD k n g).st.getD (g + 1) 0 = 1 ∧ g + 1 < (mD k n g).gs.length := by
  unfold mD
  obtain ⟨c, hc⟩ : ∃ c, min n k - g = c + 1 := ⟨min n k - g - 1, by omega⟩
  obtain ⟨d, hd⟩ : ∃ d, k - g = d + 1 := ⟨k - g - 1, by omega⟩
  rw [hc, hd, show min n k - (g + 1) = c by omega, show k - (g + 1) = d by omega, List.replicate_succ, List.replicate_succ (n := c)]
  generalize hT : List.replicate (k - min n k) (3 : Int) = T
  generalize nums (min n k) (k - min n k) ++ [0] = l
  have hg : (mW (k + n + 1) (List.replicate g (gW 2) ++ gW 1 :: List.replicate d (gW 1)) 3 (List.replicate g 5 ++ (1 :: List.replicate c 1 ++ T)) l).gs.getD (g + 1) g0 = gW 1 := by
    show (List.replicate g (gW 2) ++ gW 1 :: List.replicate d (gW 1)).getD g g0 = _
    exact rep_get g _
  have hi : insAt (fsW k n) (mW (k + n + 1) (List.replicate g (gW 2) ++ gW 1 :: List.replicate d (gW 1)) 3 (List.replicate g 5 ++ (1 :: List.replicate c 1 ++ T)) l) (g + 1) = zi := by
    unfold insAt; rw [hg]; rfl
  have ho : outI (fsW k n) (mW (k + n + 1) (List.replicate g (gW 2) ++ gW 1 :: List.replicate d (gW 1)) 3 (List.replicate g 5 ++ (1 :: List.replicate c 1 ++ T)) l) (g + 1) = (doM (mW (k + n + 1) (List.replicate g (gW 2) ++ gW 1 :: List.replicate d (gW 1)) 3 (List.replicate g 5 ++ (1 :: List.replicate c 1 ++ T)) l) (g + 1), 0, 5, false) := by
    unfold outI; rw [hi]; rfl
  refine ⟨?_, ?_, ?_⟩
  · unfold step
    rw [ho]
    unfold doM
    rw [hg]
    show (⟨⟨0, k + n + 1, 0, z16⟩ :: (List.replicate g (gW 2) ++ gW 1 :: List.replicate d (gW 1)).set g (gW 2), 3 :: ((List.replicate g (5 : Int) ++ (1 :: List.replicate c 1 ++ T)).set g 2).set g 5, [], [], 0, [], 0, wzA l⟩ : Mo) = _
    rw [List.set_set, List.cons_append, rep_set, rep_set, rep_more, rep_more]; rfl
  · show (List.replicate g (5 : Int) ++ (1 :: List.replicate c 1 ++ T)).getD g 0 = 1
    rw [List.cons_append]; exact rep_get g _
  · show g + 1 < (List.replicate g (gW 2) ++ gW 1 :: List.replicate d (gW 1)).length + 1
    rw [List.length_append, List.length_replicate, List.length_cons]; omega
theorem cnt_rep (a b : Int) (h : a ≠ b) : ∀ n, St.cnt (List.replicate n a) b = 0
  | 0 => rfl
  | n + 1 => by rw [List.replicate_succ]; unfold St.cnt; rw [if_neg h, cnt_rep a b h n]; rfl
theorem mD_stuck : decide (St.cnt (mD k n (min n k)).st 1 = 0) = true ∧ (mD k n (min n k)).tm.length = 0 ∧ 0 < St.cnt (mD k n (min n k)).st 3 := by
  have e : (mD k n (min n k)).st = 3 :: (List.replicate (min n k) 5 ++ List.replicate (k - min n k) 3) := by
    unfold mD; rw [Nat.sub_self]; rfl
  refine ⟨?_, rfl, ?_⟩
  · rw [e]
    unfold St.cnt
    rw [St.cnt_app, cnt_rep _ _ (by decide), cnt_rep _ _ (by decide)]; rfl
  · rw [e]
    have := (St.cnt_in (List.replicate (min n k) 5 ++ List.replicate (k - min n k) 3) 3).1
    unfold St.cnt
    rw [if_pos rfl]; omega
theorem mB0 (k : Nat) : mW k (List.replicate k (gW 1)) 1 (List.replicate k 3) (nums 0 k) = mB k 0 := by
  unfold mB
  rw [Nat.zero_min, Nat.sub_zero]; rfl
theorem mB_len (k i : Nat) : (mB k i).gs.length = k + 1 := by
  show (List.replicate k (gW 1)).length + 1 = k + 1
  rw [List.length_replicate]
theorem mD_len (h : g ≤ k) : (mD k n g).gs.length = k + 1 := by
  show (List.replicate g (gW 2) ++ List.replicate (k - g) (gW 1)).length + 1 = k + 1
  rw [List.length_append, List.length_replicate, List.length_replicate]; omega
end Md
end Go.Proofs.YtdnajpnnjfncbaaDoor
