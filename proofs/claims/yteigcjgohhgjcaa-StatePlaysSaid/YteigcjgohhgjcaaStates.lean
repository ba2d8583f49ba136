/- States of goroutines as they lie in memory, and what the calls of package state answer of them and make of them. -/
import Derived.Test.YteigcjgohhgjcaaState
namespace Go.Proofs.Yteigcjgohhgjcaa
open Go.RowKit Go.Lib Fx Ho
set_option linter.unusedVariables false
namespace St

/-- How many of a list are k. -/
def cnt : List Int → Int → Int
  | [], _ => 0
  | x :: L, k => (if x = k then 1 else 0) + cnt L k
theorem cnt_app (A B : List Int) (k : Int) : cnt (A ++ B) k = cnt A k + cnt B k := by
  induction A with
  | nil => simp [cnt]
  | cons x A ih => simp only [List.cons_append, cnt, ih]; omega
theorem cnt_in (L : List Int) (k : Int) : 0 ≤ cnt L k ∧ cnt L k ≤ L.length := by
  induction L with
  | nil => simp [cnt]
  | cons x L ih => simp only [cnt, List.length_cons]; split <;> omega
theorem cnt_set (f t k : Int) : ∀ (L : List Int) (g : Nat), g < L.length → L.getD g 0 = f → cnt (L.set g t) k = cnt L k - (if f = k then 1 else 0) + (if t = k then 1 else 0)
  | [], g, h, _ => by simp at h
  | x :: L, 0, _, e => by
    have e : x = f := by simpa using e
    subst e
    simp only [List.set_cons_zero, cnt]; omega
  | x :: L, g + 1, h, e => by
    have := cnt_set f t k L g (by simpa using h) (by simpa using e)
    simp only [List.set_cons_succ, cnt, this]; omega
theorem cnt_pos (f : Int) : ∀ (L : List Int) (g : Nat), g < L.length → L.getD g 0 = f → 1 ≤ cnt L f
  | [], g, h, _ => by simp at h
  | x :: L, 0, _, e => by
    have e : x = f := by simpa using e
    have := (cnt_in L f).1
    simp only [cnt, e, if_true]; omega
  | x :: L, g + 1, h, e => by
    have := cnt_pos f L g (by simpa using h) (by simpa using e)
    simp only [cnt]; split <;> omega

/-- States at p, of the goroutines L, in the row v. -/
structure IsSt (w : World) (p : Nat) (v : Value) (L : List Int) : Prop where
  head : w.heap[p]? = some (.cells #[v, .int .i64 (cnt L 0), .int .i64 (cnt L 1), .int .i64 (cnt L 2), .int .i64 (cnt L 3), .int .i64 (cnt L 4), .int .i64 (cnt L 5)] 86 (0, 0))
  own : w.ownsRow 0 3 1 v L.length (cells L)
  off : v.ownBlock ≠ some p
  mem : ∀ x ∈ L, 1 ≤ x ∧ x ≤ 5
  small : L.length ≤ 1024
def home (p : Nat) (v : Value) : Home := fun k => k = p ∨ v.ownBlock = some k
/-- The call answers r, and the states are L' then. -/
def Turns (r : Value) (w : World) (p : Nat) (v : Value) (L' : List Int) (e : Ending) (w' : World) : Prop := e = .returned r ∧ ∃ v', Wrote (home p v) w (home p v') w' ∧ IsSt w' p v' L'
namespace IsSt
variable {w w' : World} {p : Nat} {v : Value} {L : List Int} {S H H' : Home}
theorem lt (h : IsSt w p v L) : ∀ k, home p v k → k < w.heap.size := fun k hk => hk.elim (fun e => e ▸ block_lt h.head) (fun e => (h.own.lt k e).2)
theorem wrote (h : IsSt w p v L) (ht : Wrote H w H' w') (ho : Off (home p v) H) : IsSt w' p v L := by
  refine ⟨?_, ⟨h.own.1, ?_⟩, h.off, h.mem, h.small⟩
  · rw [ht.block p (block_lt h.head) (fun h' => ho p (Or.inl rfl) h')]; exact h.head
  · rcases h.own.2 with hn | ⟨g, cap, cur, rfl, hb, hgg, rest⟩
    · exact .inl hn
    · refine .inr ⟨g, cap, cur, rfl, hb, ?_, rest⟩
      rw [ht.block g (block_lt hgg) (fun h' => ho g (Or.inr rfl) h')]
      exact hgg
theorem below (h : IsSt w p v L) (hb : Below w.heap.size w w') : IsSt w' p v L := h.wrote (H := fun _ => False) (Wrote.of_below hb) (fun _ _ h => h)
theorem of_nil (h : w.heap[p]? = some (.cells #[.slice none 0 0, .int .i64 0, .int .i64 0, .int .i64 0, .int .i64 0, .int .i64 0, .int .i64 0] 86 (0, 0))) : IsSt w p (.slice none 0 0) [] :=
  ⟨h, World.ownsRow_nil _ _ _ _, by simp [Value.ownBlock], by simp, by simp⟩
theorem c0 (h : IsSt w p v L) : w.cell? ⟨p, 0, none⟩ = some v := cell_of h.head rfl
theorem c1 (h : IsSt w p v L) : w.cell? ⟨p, 1, none⟩ = some (.int .i64 (cnt L 0)) := cell_of h.head rfl
theorem c2 (h : IsSt w p v L) : w.cell? ⟨p, 2, none⟩ = some (.int .i64 (cnt L 1)) := cell_of h.head rfl
theorem c3 (h : IsSt w p v L) : w.cell? ⟨p, 3, none⟩ = some (.int .i64 (cnt L 2)) := cell_of h.head rfl
theorem c4 (h : IsSt w p v L) : w.cell? ⟨p, 4, none⟩ = some (.int .i64 (cnt L 3)) := cell_of h.head rfl
theorem c5 (h : IsSt w p v L) : w.cell? ⟨p, 5, none⟩ = some (.int .i64 (cnt L 4)) := cell_of h.head rfl
theorem c6 (h : IsSt w p v L) : w.cell? ⟨p, 6, none⟩ = some (.int .i64 (cnt L 5)) := cell_of h.head rfl
end IsSt

set_option maxRecDepth 100000 in
theorem len_nil (w : World) : Calls Try.prog 43 #[.pointer none] w (Still (.int .i64 0) w) := by
  go_enter Try.func43, Try.ntmps43
  go_wp2_with fail
  go_ret
  exact ⟨rfl, rfl⟩
set_option maxRecDepth 100000 in
theorem len_any {p : Nat} {v : Value} {L : List Int} (w : World) (h : IsSt w p v L) : Calls Try.prog 43 #[.pointer (some ⟨p, 0, none⟩)] w (Still (.int .i64 L.length) w) := by
  have c0 := h.c0
  obtain ⟨sp, cap, rfl⟩ := own_slice h.own
  clear h
  generalize L.length = n at *
  go_enter Try.func43, Try.ntmps43
  go_wp2_with fail
  go_ret
  exact ⟨rfl, rfl⟩
set_option maxRecDepth 100000 in
theorem has_yes {p : Nat} {v : Value} {L : List Int} (g : Nat) (hg : g < L.length) (w : World) (h : IsSt w p v L) : Calls Try.prog 57 #[.pointer (some ⟨p, 0, none⟩), .int .i64 g] w (Still (.bool true) w) := by
  have cl := len_any w h
  clear h
  generalize L.length = n at *
  have h1 : (0 : Int) ≤ (g : Int) := by omega
  have h2 : (g : Int) < (n : Int) := by omega
  go_enter Try.func57, Try.ntmps57
  go_wp2_with (go_at_call 43; ((with_reducible refine cl.mono ?_); rintro e w' ⟨rfl, rfl⟩))
  go_ret
  exact ⟨rfl, rfl⟩
set_option maxRecDepth 100000 in
theorem has_no {p : Nat} {v : Value} {L : List Int} (g : Int) (hg : ¬ (0 ≤ g ∧ g < L.length)) (w : World) (h : IsSt w p v L) : Calls Try.prog 57 #[.pointer (some ⟨p, 0, none⟩), .int .i64 g] w (Still (.bool false) w) := by
  have cl := len_any w h
  clear h
  generalize L.length = n at *
  have h3 : decide (g < 0) = true ∨ decide (g < (n : Int)) = false := by
    rcases (show g < 0 ∨ ¬ g < (n : Int) by omega) with h | h
    · exact Or.inl (decide_eq_true h)
    · exact Or.inr (decide_eq_false h)
  rcases (show g < 0 ∨ (0 ≤ g ∧ decide (g < (n : Int)) = false) by simp at h3 ⊢; omega) with h1 | ⟨h1, h2⟩
  all_goals
    clear hg h3
    go_enter Try.func57, Try.ntmps57
    go_wp2_with (go_at_call 43; ((with_reducible refine cl.mono ?_); rintro e w' ⟨rfl, rfl⟩))
    go_ret
    exact ⟨rfl, rfl⟩
set_option maxRecDepth 100000 in
theorem has_nil (g : Int) (w : World) : Calls Try.prog 57 #[.pointer none, .int .i64 g] w (Still (.bool false) w) := by
  have cl := len_nil w
  rcases (show g < 0 ∨ (0 ≤ g ∧ decide (g < 0) = false) by simp; omega) with h1 | ⟨h1, h2⟩
  all_goals
    go_enter Try.func57, Try.ntmps57
    go_wp2_with (go_at_call 43; ((with_reducible refine cl.mono ?_); rintro e w' ⟨rfl, rfl⟩))
    go_ret
    exact ⟨rfl, rfl⟩
set_option maxRecDepth 100000 in
theorem of_yes {p : Nat} {v : Value} {L : List Int} (g : Nat) (hg : g < L.length) (w : World) (h : IsSt w p v L) : Calls Try.prog 44 #[.pointer (some ⟨p, 0, none⟩), .int .i64 g] w (Still (.int .i64 (L.getD g 0)) w) := by
  have ch := has_yes g hg w h
  have c0 := h.c0
  obtain ⟨b, cap, rfl, k1, k2, k3, k4⟩ := own_at h.own hg
  clear h
  generalize L.getD g 0 = x at *
  generalize L.length = n at *
  have h1 : (0 : Int) ≤ (g : Int) := by omega
  have h2 : (g : Int) < (n : Int) := by omega
  go_enter Try.func44, Try.ntmps44
  go_wp2_with (go_at_call 57; ((with_reducible refine ch.mono ?_); rintro e w' ⟨rfl, rfl⟩))
  go_ret
  exact ⟨rfl, rfl⟩
set_option maxRecDepth 100000 in
theorem of_no {p : Nat} {v : Value} {L : List Int} (g : Int) (hg : ¬ (0 ≤ g ∧ g < L.length)) (w : World) (h : IsSt w p v L) : Calls Try.prog 44 #[.pointer (some ⟨p, 0, none⟩), .int .i64 g] w (Still (.int .i64 0) w) := by
  have ch := has_no g hg w h
  clear h hg
  go_enter Try.func44, Try.ntmps44
  go_wp2_with (go_at_call 57; ((with_reducible refine ch.mono ?_); rintro e w' ⟨rfl, rfl⟩))
  go_ret
  exact ⟨rfl, rfl⟩
set_option maxRecDepth 100000 in
theorem of_nil (g : Int) (w : World) : Calls Try.prog 44 #[.pointer none, .int .i64 g] w (Still (.int .i64 0) w) := by
  have ch := has_nil g w
  go_enter Try.func44, Try.ntmps44
  go_wp2_with (go_at_call 57; ((with_reducible refine ch.mono ?_); rintro e w' ⟨rfl, rfl⟩))
  go_ret
  exact ⟨rfl, rfl⟩
set_option maxRecDepth 100000 in
theorem count_yes {p : Nat} {v : Value} {L : List Int} (k : Int) (hk : 0 ≤ k ∧ k < 6) (w : World) (h : IsSt w p v L) : Calls Try.prog 42 #[.pointer (some ⟨p, 0, none⟩), .int .i64 k] w (Still (.int .i64 (cnt L k)) w) := by
  have ci := isstate_yes k hk w
  have c1 := h.c1
  have c2 := h.c2
  have c3 := h.c3
  have c4 := h.c4
  have c5 := h.c5
  have c6 := h.c6
  clear h
  rcases (show k = 0 ∨ k = 1 ∨ k = 2 ∨ k = 3 ∨ k = 4 ∨ k = 5 by omega) with rfl | rfl | rfl | rfl | rfl | rfl
  all_goals
    clear hk
    generalize cnt L 0 = a0 at *
    generalize cnt L 1 = a1 at *
    generalize cnt L 2 = a2 at *
    generalize cnt L 3 = a3 at *
    generalize cnt L 4 = a4 at *
    generalize cnt L 5 = a5 at *
    go_enter Try.func42, Try.ntmps42
    go_wp2_with (go_at_call 58; ((with_reducible refine ci.mono ?_); rintro e w' ⟨rfl, rfl⟩))
    go_ret
    exact ⟨rfl, rfl⟩
set_option maxRecDepth 100000 in
theorem count_no {p : Nat} (k : Int) (hk : ¬ (0 ≤ k ∧ k < 6)) (w : World) : Calls Try.prog 42 #[.pointer (some ⟨p, 0, none⟩), .int .i64 k] w (Still (.int .i64 0) w) := by
  have ci := isstate_no k hk w
  clear hk
  go_enter Try.func42, Try.ntmps42
  go_wp2_with (go_at_call 58; ((with_reducible refine ci.mono ?_); rintro e w' ⟨rfl, rfl⟩))
  go_ret
  exact ⟨rfl, rfl⟩
set_option maxRecDepth 100000 in
theorem new_any (w : World) : Calls Try.prog 38 #[] w fun e w' => e = .returned (.pointer (some ⟨w.heap.size, 0, none⟩)) ∧ Below w.heap.size w w' ∧ IsSt w' w.heap.size (.slice none 0 0) [] := by
  go_enter Try.func38, Try.ntmps38
  go_wp2_with fail
  go_ret
  exact ⟨rfl, below_alloc (Below.refl _ _) _, IsSt.of_nil (heap_alloc_new _ _)⟩
end St
end Go.Proofs.Yteigcjgohhgjcaa
