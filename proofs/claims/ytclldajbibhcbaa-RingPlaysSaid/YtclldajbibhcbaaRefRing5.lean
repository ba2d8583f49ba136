/- The document's own ring: somebody is taken out. -/
import Derived.Test.YtclldajbibhcbaaRefRing2
namespace Go.Proofs.Ytclldajbibhcbaa
open Go.RowKit Go.Lib Fx Ho Ri Rw Qu
set_option linter.unusedVariables false
namespace Rr
variable {S : Home} {w w' : World} {p q : Nat} {nv lv mv kv : Value} {nx ny : Option Int} {L M : List Int} {H H' : Home}
def dN (nx : Option Int) (g : Int) : Option Int := if nx = some g then none else nx
def dL (nx : Option Int) (L : List Int) (g : Int) : List Int := if nx = some g then L else L.erase g
def dB (nx : Option Int) (L : List Int) (g : Int) : Bool := decide (nx = some g) || decide (g ∈ L)
set_option maxRecDepth 100000 in
theorem rdel_next {g : Int} (h : IsR S w p nv lv (some g) L) (hp : ¬ S p) : Calls Try.prog 24 #[.pointer (some ⟨p, 0, none⟩), .int .i64 g] w (Turned S (.bool true) w p none L) := by
  have c0 := h.c0
  have f0 := h.fz 0
  have cH : Calls Try.prog 105 #[nv, .int .i64 g] w (Still (.bool true) w) := by
    have := has_any g h.nr
    rwa [decide_eq_true (by simp)] at this
  obtain ⟨s0, k0, e0⟩ := ints_slice h.nr
  have hfin : Hid (Turned S (.bool true) w p none L (.returned (.bool true)) (w.setCell ⟨p, 0, none⟩ (.slice none 0 0))) := by
    obtain ⟨k1, k2⟩ := h.setN hp (Below.refl _ _) (nx' := none) (v1 := .slice none 0 0) (ints_nil _ _)
    exact ⟨_, _, rfl, k1, k2⟩
  clear h e0
  go_enter Try.func24, Try.ntmps24
  go_wp2_with fail
  with_reducible refine Calls.mono (cH) ?_
  rintro e w1 ⟨rfl, rfl⟩
  go_wp2_with fail
  go_ret
  exact hfin.out
set_option maxRecDepth 100000 in
set_option maxHeartbeats 1000000 in
theorem rdel_row {g : Int} (hx : nx ≠ some g) (hs : L.length ≤ 256) (h : IsR S w p nv lv nx L) (hp : ¬ S p) (hS : ∀ k, w.heap.size ≤ k → S k) : Calls Try.prog 24 #[.pointer (some ⟨p, 0, none⟩), .int .i64 g] w (Turned S (.bool (decide (g ∈ L))) w p nx (L.erase g)) := by
  have c0 := h.c0
  have c1 := h.c1
  have cH : Calls Try.prog 105 #[nv, .int .i64 g] w (Still (.bool false) w) := by
    have := has_any g h.nr
    rwa [decide_eq_false (by cases nx <;> simp at hx ⊢; exact fun e => hx e.symm)] at this
  have hplt := h.lt
  have cO : Hid (Calls Try.prog 34 #[lv, .int .i64 g] w fun e W => ∃ s1 l1 c1, e = .returned (.tuple #[.slice s1 l1 c1, .bool (decide (g ∈ L))]) ∧ W.cell? ⟨p, 1, none⟩ = some lv ∧ W.frozen? ⟨p, 1, none⟩ = false ∧ Hid (Turned S (.bool (decide (g ∈ L))) w p nx (L.erase g) (.returned (.bool (decide (g ∈ L)))) (W.setCell ⟨p, 1, none⟩ (.slice s1 l1 c1)))) := Lib.hid (by
    by_cases hg : g ∈ L
    · obtain ⟨A, B, rfl, hno⟩ := first_of hg
      obtain ⟨s, c, e⟩ := ints_slice h.lr
      have hcap := h.cap _ _ _ e
      have hi := h.lr
      rw [e] at hi
      rw [e, decide_eq_true hg]
      refine (out_some hi hno rfl hcap (by omega)).mono fun e1 W ⟨v1, he, hr, hl, hb⟩ => ?_
      obtain ⟨s1, c1, ev⟩ := hr.slice
      have h1 := h.below hb
      obtain ⟨k1, k2⟩ := h.setL hp hb (ints_made hr hl hS) (off_cap hr)
      subst ev
      have e2 : (A ++ g :: B).erase g = A ++ B := by rw [List.erase_append_right _ hno, List.erase_cons_head]
      rw [e2]
      exact ⟨s1, _, c1, he, by rw [← e]; exact h1.c1, h1.fz 1, Lib.hid ⟨_, _, rfl, k1, k2⟩⟩
    · rw [decide_eq_false hg, List.erase_of_not_mem hg]
      obtain ⟨s, c, e⟩ := ints_slice h.lr
      refine (out_not h.lr hg).mono fun e1 W ⟨he, hw⟩ => ?_
      subst hw
      obtain ⟨k1, k2⟩ := h.setL hp (Below.refl _ _) h.lr h.cap
      rw [e] at he k1 k2
      exact ⟨s, _, c, he, h.c1, h.fz 1, Lib.hid ⟨_, _, rfl, k1, k2⟩⟩)
  clear h
  generalize decide (g ∈ L) = bb at *
  go_enter Try.func24, Try.ntmps24
  go_wp2_with fail
  with_reducible refine Calls.mono (cH) ?_
  rintro e w1 ⟨rfl, e1⟩
  subst e1
  go_wp2_with fail
  with_reducible refine Calls.mono (cO.out) ?_
  rintro e w2 ⟨s1, l1, c1, rfl, f1, f2, hgo⟩
  clear cO cH
  go_wp2_with fail
  go_ret
  exact hgo.out
theorem rdel_any (g : Int) (hs : L.length ≤ 256) (h : IsR S w p nv lv nx L) (hp : ¬ S p) (hS : ∀ k, w.heap.size ≤ k → S k) : Calls Try.prog 24 #[.pointer (some ⟨p, 0, none⟩), .int .i64 g] w (Turned S (.bool (dB nx L g)) w p (dN nx g) (dL nx L g)) := by
  by_cases hx : nx = some g
  · subst hx
    unfold dB dN dL
    simp only [if_pos, decide_true, Bool.true_or]
    exact rdel_next h hp
  · unfold dB dN dL
    simp only [if_neg hx, decide_eq_false hx, Bool.false_or]
    exact rdel_row hx hs h hp hS
end Rr
end Go.Proofs.Ytclldajbibhcbaa
