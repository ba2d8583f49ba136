/- What cut and Del of package ring answer and make. -/
import Derived.Test.YtpclacaiabbmjaaRingMore
namespace Go.Proofs.Ytpclacaiabbmjaa
open Go.RowKit Go.Lib Fx Ho
set_option linter.unusedVariables false
namespace Ri
variable {p a : Nat} {A : Array Value} {F : Nat → Int} {y : Int} {b : Bool} {L : List Int} {nx : Option Int}

/-- The row's place i written. -/
theorem RingAt.placed {w : World} (h : RingAt w p A F a y b L) {i : Nat} (hi : i < L.length) (g : Int) : RingAt (w.setCell ⟨p, (a + i) % 256, none⟩ (.int .i64 g)) p
    (A.setIfInBounds ((a + i) % 256) (.int .i64 g)) (fun k => if k = (a + i) % 256 then g else F k) a y b (L.set i g) := by
  have hj : (a + i) % 256 < 256 := Nat.mod_lt _ (by decide)
  have ha := h.a1
  have hs := h.small
  obtain ⟨j, hje⟩ : ∃ j, (a + i) % 256 = j := ⟨_, rfl⟩
  rw [hje] at hj ⊢
  refine ⟨heap_setCell_same _ p _ _ _ _ h.head, fun k hk => ?_, ?_, ?_, ?_, ?_, h.a1, ?_, fun r hr => ?_⟩
  · by_cases e : k = j
    · rw [if_pos e, e]; exact get_same (h.row j hj)
    · rw [if_neg e]; exact get_set (h.row k hk) (fun e2 => e e2.symm)
  · exact get_set h.k1 (by omega)
  · rw [List.length_set]; exact get_set h.k2 (by omega)
  · exact get_set h.k3 (by omega)
  · exact get_set h.k4 (by omega)
  · rw [List.length_set]; exact hs
  · rw [List.length_set] at hr
    show (if (a + r) % 256 = j then g else F _) = _
    by_cases e : r = i
    · subst e
      rw [if_pos hje, List.getD_eq_getElem?_getD, List.getElem?_set_self hr]; rfl
    · rw [if_neg (by omega), h.elems r hr, List.getD_eq_getElem?_getD, List.getD_eq_getElem?_getD, List.getElem?_set_ne (fun e2 => e e2.symm)]
/-- The last one gone. -/
theorem RingAt.popped {w : World} (h : RingAt w p A F a y b L) {n : Nat} (hn : L.length = n + 1) : RingAt (w.setCell ⟨p, 257, none⟩ (.int .i64 (n : Nat))) p (A.setIfInBounds 257 (.int .i64 (n : Nat))) F a y b L.dropLast := by
  have hs := h.small
  refine ⟨heap_setCell_same _ p _ _ _ _ h.head, fun k hk => ?_, ?_, ?_, ?_, ?_, h.a1, ?_, fun r hr => ?_⟩
  · exact get_set (h.row k hk) (by omega)
  · exact get_set h.k1 (by omega)
  · rw [List.length_dropLast, hn]; exact get_same h.k2
  · exact get_set h.k3 (by omega)
  · exact get_set h.k4 (by omega)
  · rw [List.length_dropLast]; omega
  · rw [List.length_dropLast] at hr
    rw [h.elems r (by omega), List.getD_eq_getElem?_getD, List.getD_eq_getElem?_getD, List.getElem?_dropLast, if_pos hr]
/-- L once the d places from i on hold what was one place behind them. -/
def cutL (L : List Int) (i : Nat) : Nat → List Int
  | 0 => L
  | d + 1 => (cutL L i d).set (i + d) (L.getD (i + d + 1) 0)
theorem cut_len (L : List Int) (i : Nat) : ∀ d, (cutL L i d).length = L.length
  | 0 => rfl
  | d + 1 => by show ((cutL L i d).set _ _).length = _; rw [List.length_set, cut_len L i d]
theorem cut_get (L : List Int) (i : Nat) : ∀ d, i + d ≤ L.length → ∀ j, (cutL L i d).getD j 0 = if i ≤ j ∧ j < i + d then L.getD (j + 1) 0 else L.getD j 0
  | 0, _, j => by rw [if_neg (by omega)]; rfl
  | d + 1, h, j => by
    show ((cutL L i d).set (i + d) (L.getD (i + d + 1) 0)).getD j 0 = _
    have ih := cut_get L i d (by omega) j
    by_cases e : j = i + d
    · subst e
      rw [if_pos (by omega), List.getD_eq_getElem?_getD, List.getElem?_set_self (by rw [cut_len]; omega)]; rfl
    · rw [List.getD_eq_getElem?_getD, List.getElem?_set_ne (fun e2 => e e2.symm), ← List.getD_eq_getElem?_getD, ih]
      by_cases h1 : i ≤ j ∧ j < i + d
      · rw [if_pos h1, if_pos (by omega)]
      · rw [if_neg h1, if_neg (by omega)]
theorem cut_end (L : List Int) {i n : Nat} (hn : L.length = n + 1) (hi : i ≤ n) : (cutL L i (n - i)).dropLast = L.eraseIdx i := by
  apply List.ext_getElem?
  intro j
  have hg := cut_get L i (n - i) (by omega) j
  have hl := cut_len L i (n - i)
  rw [List.getElem?_dropLast, List.getElem?_eraseIdx, hl, hn]
  by_cases hj : j < n
  · rw [if_pos (by omega)]
    rw [List.getD_eq_getElem?_getD, List.getElem?_eq_getElem (by omega)] at hg
    rw [List.getElem?_eq_getElem (by omega)]
    by_cases h1 : j < i
    · rw [if_pos h1]
      rw [if_neg (by omega), List.getD_eq_getElem?_getD, List.getElem?_eq_getElem (by omega)] at hg
      rw [List.getElem?_eq_getElem (by omega)]
      simpa using hg
    · rw [if_neg h1]
      rw [if_pos (by omega), List.getD_eq_getElem?_getD, List.getElem?_eq_getElem (by omega)] at hg
      rw [List.getElem?_eq_getElem (by omega)]
      simpa using hg
  · rw [if_neg (by omega)]
    by_cases h1 : j < i
    · omega
    · rw [if_neg h1, List.getElem?_eq_none (by omega)]

/-- A ring that is known whole, since the world w0. -/
structure Rw (w0 w : World) (p : Nat) (b : Bool) (y : Int) (L : List Int) : Prop where
  ex : ∃ A F a, RingAt w p A F a y b L
  wr : Wrote (at_ p) w0 (at_ p) w
section
variable {W0 w : World}
theorem not_all {g : Int} (h : g ∉ allOf nx L) : nx ≠ some g ∧ ∀ j, j < L.length → L.getD j 0 ≠ g := by
  refine ⟨fun e => h (by rw [e]; simp [allOf]), fun j hj e => h ?_⟩
  unfold allOf
  refine List.mem_append_right _ ?_
  rw [← e, List.getD_eq_getElem?_getD, List.getElem?_eq_getElem hj]
  exact List.getElem_mem _
end
/-- d numbers that rise, from i on; the same without x. -/
def upL (i : Nat) : Nat → List Int
  | 0 => []
  | d + 1 => (i : Int) :: upL (i + 1) d
def remL (x i : Nat) : Nat → List Int
  | 0 => []
  | d + 1 => (if i = x then [] else [(i : Int)]) ++ remL x (i + 1) d
theorem up_snoc : ∀ (d i : Nat), upL i (d + 1) = upL i d ++ [((i + d : Nat) : Int)]
  | 0, i => rfl
  | d + 1, i => by
    show (i : Int) :: upL (i + 1) (d + 1) = (i : Int) :: (upL (i + 1) d ++ _)
    rw [up_snoc d (i + 1), show i + 1 + d = i + (d + 1) by omega]
theorem seq_up (i : Nat) : ∀ d, seqL (i : Int) d = upL i d
  | 0 => rfl
  | d + 1 => by rw [up_snoc, ← seq_up i d]; show seqL _ d ++ [(i : Int) + (d : Int)] = _; rw [show (i : Int) + (d : Int) = ((i + d : Nat) : Int) by omega]
theorem rem_up (x : Nat) : ∀ (d i : Nat), x < i → remL x i d = upL i d
  | 0, i, _ => rfl
  | d + 1, i, h => by
    show (if i = x then [] else [(i : Int)]) ++ remL x (i + 1) d = _
    rw [if_neg (by omega), rem_up x d (i + 1) (by omega)]; rfl
theorem erase_up : ∀ (d i j : Nat), j < d → (upL i d).eraseIdx j = remL (i + j) i d
  | 0, i, j, h => by omega
  | d + 1, i, 0, _ => by
    show upL (i + 1) d = (if i = i + 0 then [] else [(i : Int)]) ++ remL (i + 0) (i + 1) d
    rw [if_pos (show i = i + 0 from rfl), rem_up _ d (i + 1) (by omega)]; rfl
  | d + 1, i, j + 1, h => by
    show (i : Int) :: (upL (i + 1) d).eraseIdx j = (if i = i + (j + 1) then [] else [(i : Int)]) ++ remL (i + (j + 1)) (i + 1) d
    rw [if_neg (by omega), erase_up d (i + 1) j (by omega), show i + 1 + j = i + (j + 1) by omega]; rfl
theorem mem_rem {x : Nat} {g : Int} : ∀ {d i : Nat}, g ∈ remL x i d → ∃ t : Nat, g = (t : Int) ∧ i ≤ t ∧ t < i + d ∧ t ≠ x
  | 0, i, h => by cases h
  | d + 1, i, h => by
    have h : g ∈ (if i = x then [] else [(i : Int)]) ++ remL x (i + 1) d := h
    rcases List.mem_append.1 h with h | h
    · by_cases e : i = x
      · rw [if_pos e] at h; cases h
      · rw [if_neg e] at h
        exact ⟨i, List.mem_singleton.1 h, Nat.le_refl _, by omega, e⟩
    · obtain ⟨t, h1, h2, h3, h4⟩ := mem_rem h
      exact ⟨t, h1, by omega, by omega, h4⟩
theorem rem_len (x : Nat) : ∀ (d i : Nat), i ≤ x → x < i + d → (remL x i d).length + 1 = d
  | 0, i, h1, h2 => by omega
  | d + 1, i, h1, h2 => by
    show ((if i = x then [] else [(i : Int)]) ++ remL x (i + 1) d).length + 1 = _
    rw [List.length_append]
    by_cases e : i = x
    · rw [if_pos e, rem_up x d (i + 1) (by omega), ← seq_up, seq_len]; simp
    · have := rem_len x d (i + 1) (by omega) (by omega)
      rw [if_neg e]; simp; omega
end Ri
end Go.Proofs.Ytpclacaiabbmjaa
