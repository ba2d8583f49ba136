/- A new span, and the calls of a span that is none. -/
import Derived.Test.YtoamabmnbldgkaaDoorSpanSweep
namespace Go.Proofs.YtoamabmnbldgkaaDoor
open Go.RowKit Go.Lib Fx Bm Cl
set_option linter.unusedVariables false

/-- A new span: no place is used. -/
def NewSpan (w : World) (f c n : Nat) (e : Ending) (w' : World) : Prop :=
  ∃ B : SB, e = .returned (.tuple #[.pointer (some ⟨B.p, 0, none⟩), .int .i64 0]) ∧ Below w.heap.size w w' ∧ w.heap.size ≤ B.lo ∧ IsSpan w' B f c n 0 (fun _ => false) (fun _ => false)
set_option maxRecDepth 100000 in
set_option maxHeartbeats 1000000 in
theorem span_new (f c n : Nat) (hc : c ≤ 15) (hn : (n : Int) = slotsI c) (f1 : 1 ≤ f) (f2 : f ≤ 262144) (w : World) : Calls Tryd.prog 24 #[.int .i64 f, .int .i64 c] w (NewSpan w f c n) := by
  have cz := size_any4 c w
  have hz := size_in (k := c) (by omega) (by omega)
  have hz0 : (sizeI c == 0) = false := by rw [beq_eq_false_iff_ne]; omega
  have cs := fun w => slots_any c w
  have hsl := slots_u hn hc
  rw [← hn] at cs
  have d1 : decide ((f : Int) < 1) = false := decide_eq_false (by omega)
  have d2 : decide (262144 < (f : Int)) = false := decide_eq_false (by omega)
  have cn := fun w => setnew_any n (by omega) w
  clear hz
  replace hn := Lib.hid hn
  replace hsl := Lib.hid hsl
  generalize sizeI (c : Int) = S at *
  go_enter Tryd.func24, Tryd.ntmps24
  go_wp2_with fail
  refine cz.mono ?_
  rintro e w1 ⟨rfl, hb1⟩
  go_wp2_with fail
  refine (cs _).mono ?_
  rintro e w2 ⟨rfl, hb2⟩
  have hb2 := below_then hb1 hb2
  clear cz cs
  go_wp2_with fail
  refine (cn _).mono ?_
  rintro e w3 ⟨rfl, hb3, hs3⟩
  have hb3' := below_then hb2 hb3
  go_wp2_with fail
  refine (cn _).mono ?_
  rintro e w4 ⟨rfl, hb4, hs4⟩
  have hs3' := hs3.below hb4
  have l3 := hs3.lt
  have hb4' := below_then hb3' hb4
  obtain ⟨a, ha⟩ : ∃ a, w2.heap.size = a := ⟨_, rfl⟩
  obtain ⟨b, hb⟩ : ∃ b, w3.heap.size = b := ⟨_, rfl⟩
  have haw : w.heap.size ≤ a := by rw [← ha]; exact hb2.size
  have l4 := hs4.lt
  rw [ha] at hs3' hs3 l3 ⊢
  rw [hb] at hs4 l3 l4 ⊢
  clear cn hs3 hb3 hb4 hb1 hb2 hb3' ha hb
  go_wp2_with fail
  go_ret2
  refine ⟨⟨a, w4.heap.size + 1, w4.heap.size, a + 1, a, b + 1, b⟩, rfl, below_alloc hb4' _, haw, ⟨heap_alloc_new _ _, hs3'.below (below_alloc (Below.refl _ _) _), hs4.below (below_alloc (Below.refl _ _) _), (fun _ h => Bool.noConfusion h), Nat.zero_le _, hn.out, hc, f1, f2, ?_, by simp⟩⟩
  constructor <;> dsimp only <;> omega
set_option maxRecDepth 100000 in
set_option maxHeartbeats 1000000 in
theorem span_new_no (f c : Int) (hb : ¬ (0 ≤ c ∧ c ≤ 15) ∨ f < 1 ∨ 262144 < f) (w : World) : Calls Tryd.prog 24 #[.int .i64 f, .int .i64 c] w (AnsB (.tuple #[.pointer none, .int .i64 1]) w) := by
  have cz := size_any4 c w
  by_cases hc : 0 ≤ c ∧ c ≤ 15
  · have hz := size_in (k := c) (by omega) (by omega)
    have hz0 : (sizeI c == 0) = false := by rw [beq_eq_false_iff_ne]; omega
    clear hz
    generalize sizeI c = S at *
    by_cases h1 : f < 1
    · have d1 : decide (f < 1) = true := decide_eq_true h1
      go_enter Tryd.func24, Tryd.ntmps24
      go_wp2_with fail
      refine cz.mono ?_
      rintro e w1 ⟨rfl, hb1⟩
      go_wp2_with fail
      go_ret2
      exact ⟨rfl, hb1⟩
    · have d1 : decide (f < 1) = false := decide_eq_false h1
      have d2 : decide (262144 < f) = true := decide_eq_true (by omega)
      go_enter Tryd.func24, Tryd.ntmps24
      go_wp2_with fail
      refine cz.mono ?_
      rintro e w1 ⟨rfl, hb1⟩
      go_wp2_with fail
      go_ret2
      exact ⟨rfl, hb1⟩
  · rw [size_out (by omega)] at cz
    go_enter Tryd.func24, Tryd.ntmps24
    go_wp2_with fail
    refine cz.mono ?_
    rintro e w1 ⟨rfl, hb1⟩
    go_wp2_with fail
    go_ret2
    exact ⟨rfl, hb1⟩

section
variable (w : World)
set_option maxRecDepth 100000 in
theorem nspan_base : Calls Tryd.prog 32 #[.pointer none] w (Same (.int .i64 0) w) := by
  go_enter Tryd.func32, Tryd.ntmps32
  go_wp2_with fail
  go_ret
  exact ⟨rfl, rfl⟩
set_option maxRecDepth 100000 in
theorem nspan_slots : Calls Tryd.prog 27 #[.pointer none] w (Same (.int .i64 0) w) := by
  go_enter Tryd.func27, Tryd.ntmps27
  go_wp2_with fail
  go_ret
  exact ⟨rfl, rfl⟩
set_option maxRecDepth 100000 in
theorem nspan_live : Calls Tryd.prog 30 #[.pointer none] w (Same (.int .i64 0) w) := by
  go_enter Tryd.func30, Tryd.ntmps30
  go_wp2_with fail
  go_ret
  exact ⟨rfl, rfl⟩
set_option maxRecDepth 100000 in
theorem nspan_used (i : Int) : Calls Tryd.prog 37 #[.pointer none, .int .i64 i] w (Same (.bool false) w) := by
  go_enter Tryd.func37, Tryd.ntmps37
  go_wp2_with fail
  go_ret
  exact ⟨rfl, rfl⟩
set_option maxRecDepth 100000 in
theorem nspan_mark (i : Int) : Calls Tryd.prog 28 #[.pointer none, .int .i64 i] w (Same (.bool false) w) := by
  have c := nspan_used w i
  go_enter Tryd.func28, Tryd.ntmps28
  go_wp2_with (go_at_call 37; ((with_reducible refine c.mono ?_); rintro e w' ⟨rfl, rfl⟩))
  go_ret
  exact ⟨rfl, rfl⟩
set_option maxRecDepth 100000 in
theorem nspan_full : Calls Tryd.prog 40 #[.pointer none] w (Ans (.bool true) w) := by
  go_enter Tryd.func40, Tryd.ntmps40
  go_wp2_with fail
  go_quiet (fail)
  go_wp2_with fail
  go_ret
  exact ⟨rfl, _, rfl⟩
set_option maxRecDepth 100000 in
theorem nspan_alloc (b : Bool) : Calls Tryd.prog 26 #[.pointer none, .bool b] w (Ans (.tuple #[.int .i64 0, .bool false]) w) := by
  have c := nspan_full w
  go_enter Tryd.func26, Tryd.ntmps26
  go_wp2_with (go_at_call 40; ((with_reducible refine c.mono ?_); rintro e w' ⟨rfl, k, rfl⟩))
  go_ret2
  exact ⟨rfl, _, rfl⟩
set_option maxRecDepth 100000 in
theorem nspan_at (x : Int) : Calls Tryd.prog 44 #[.pointer none, .int .i64 x] w (Same (.tuple #[.int .i64 0, .bool false]) w) := by
  go_enter Tryd.func44, Tryd.ntmps44
  go_wp2_with fail
  go_ret2
  exact ⟨rfl, rfl⟩
set_option maxRecDepth 100000 in
theorem nspan_sweep : Calls Tryd.prog 29 #[.pointer none] w (AnsB (.slice none 0 0) w) := by
  have b1 : (w.alloc (.cells #[.pointer none] 42)).cell? ⟨w.heap.size, 0, none⟩ = some (.pointer none) := by unfold World.cell?; rw [heap_alloc_new]; rfl
  go_enter Tryd.func29, Tryd.ntmps29
  go_wp2_with fail
  go_ret
  exact ⟨rfl, below_alloc (Below.refl _ _) _⟩
end
end Go.Proofs.YtoamabmnbldgkaaDoor
