/- The law's own told of package credit; what rises with what is scanned; two sessions side by side. -/
import Derived.Test.YtmngaedcckjfoaaCreditDo
namespace Go.Proofs.Ytmngaedcckjfoaa
open Go.RowKit Go.Lib Fx Ho Mp
set_option linter.unusedVariables false
namespace Cr
variable {w w' W W0 : World} {p n : Nat} {ratio bank : Int} {m : Int → Sm} {H H' : Home}
theorem up_up {α : Type} (m : Int → α) (k : Int) (x y : α) : up (up m k x) k y = up m k y := by
  funext j
  unfold up
  split <;> rfl
theorem clamp_mono {x y : Int} (h : x ≤ y) : clampI x ≤ clampI y := by
  unfold clampI
  split <;> split <;> (try split) <;> (try split) <;> omega
theorem cov_mono {r s t : Int} (hr : 0 < r) (h : s ≤ t) : cov r s ≤ cov r t := by
  unfold cov intI divI wholeI
  have h0 : ¬ r = 0 := by omega
  simp only [if_neg h0, if_pos hr]
  have h1 : clampI (s * 1048576) ≤ clampI (t * 1048576) := clamp_mono (by omega)
  exact Int.ediv_le_ediv (by omega) (clamp_mono (Int.ediv_le_ediv hr (by omega)))
theorem cov0 (r : Int) (hr : 0 < r) : cov r 0 = 0 := by
  unfold cov divI
  have h0 : ¬ r = 0 := by omega
  rw [if_neg h0, if_pos hr, show wholeI 0 = 0 from by decide, Int.zero_mul, Int.zero_ediv]
  decide
set_option maxRecDepth 100000 in
set_option maxHeartbeats 1000000 in
theorem told_any (w : World) : Calls Try.prog 22 #[] w (AnsB (.bool true) w) := by
  have cn := new_any 2097152 (by unfold inI; omega) w
  go_enter Try.func22, Try.ntmps22
  go_wp2_with fail
  with_reducible refine Calls.mono (cn) ?_
  rintro e w1 ⟨rfl, hs⟩
  clear cn
  have c1 := alloc_yes hs (by decide) (g := 0) (by decide) 64 (by decide) (by unfold inI; omega) (by decide) (by decide)
  clear hs
  go_wp2_with fail
  with_reducible refine Calls.mono (c1) ?_
  rintro e w2 ⟨rfl, H2, -, hs⟩
  replace hs : Sc w w2 w.heap.size H2 2097152 0 1 (up (fun _ => (0, 0)) 0 (64, 0)) := hs
  have c2 := alloc_no hs (by decide) (g := 0) (by decide) 1 (by decide) (by unfold inI; omega) (by decide)
  replace hs := Lib.hid hs
  clear c1
  go_wp2_with fail
  with_reducible refine Calls.mono (c2) ?_
  rintro e w3 ⟨rfl, hb⟩
  have hs := hs.out.below hb
  have c3 := owed_low hs (by decide) (g := 0) (by decide) (by decide)
  replace hs := Lib.hid hs
  clear c2 hb
  go_wp2_with fail
  with_reducible refine Calls.mono (c3) ?_
  rintro e w4 ⟨rfl, hb⟩
  have hs := hs.out.below hb
  have c4 := scan_any hs (g := 0) (by decide) 2 (by decide) (by unfold inI; omega) (by decide)
  clear c3 hb hs
  go_wp2_with fail
  with_reducible refine Calls.mono (c4) ?_
  rintro e w5 ⟨rfl, H5, -, hs⟩
  rw [up_up] at hs
  replace hs : Sc w w5 w.heap.size H5 2097152 0 2 (up (fun _ => (0, 0)) 0 (64, 2)) := hs
  have c5 := alloc_yes hs (by decide) (g := 0) (by decide) 1 (by decide) (by unfold inI; omega) (by decide) (by decide)
  clear c4 hs
  go_wp2_with fail
  with_reducible refine Calls.mono (c5) ?_
  rintro e w6 ⟨rfl, H6, -, hs⟩
  rw [up_up] at hs
  replace hs : Sc w w6 w.heap.size H6 2097152 0 3 (up (fun _ => (0, 0)) 0 (65, 2)) := hs
  have c6 := sums_any hs (g := 0) (by decide)
  replace c6 : Calls Try.prog 17 #[.pointer (some ⟨w.heap.size, 0, none⟩), .int .i64 0] w6 (AnsB (.tuple #[.int .i64 65, .int .i64 2]) w6) := c6
  have hb6 := Lib.hid hs.out
  clear c5 hs
  go_wp2_with fail
  with_reducible refine Calls.mono (c6) ?_
  rintro e w7 ⟨rfl, hb⟩
  have hb7 := hb6.out.trans (hb.mono hb6.out.size)
  clear c6 hb
  go_wp2_with fail
  go_ret
  exact ⟨rfl, hb7⟩
/-- Two objects side by side. -/
structure Cd (W0 W : World) (p q : Nat) (H Hx : Home) (r rx : Int) (n nx : Nat) (m mx : Int → Sm) : Prop where
  c : Sc W0 W p H r 0 n m
  d : Sc W0 W q Hx rx 0 nx mx
  o : Off H Hx
variable {q nx : Nat} {r rx : Int} {mx m' : Int → Sm} {Hx : Home} {W' : World} {n' : Nat}
theorem Cd.below (h : Cd W0 W p q H Hx r rx n nx m mx) (hb : Below W.heap.size W W') : Cd W0 W' p q H Hx r rx n nx m mx := ⟨h.c.below hb, h.d.below hb, h.o⟩
theorem Cd.left (h : Cd W0 W p q H Hx r rx n nx m mx) (hw : Wrote H W H' W') (hs : Sc W0 W' p H' r 0 n' m') : Cd W0 W' p q H' Hx r rx n' nx m' mx :=
  ⟨hs, h.d.wrote hw (fun k h1 h2 => h.o k h2 h1) h.c.low, fun k h1 h2 => (hw.home k h1).elim (fun e => h.o k e h2) (fun e => by have := h.d.lt h2; omega)⟩
theorem Cd.right (h : Cd W0 W p q H Hx r rx n nx m mx) (hw : Wrote Hx W H' W') (hs : Sc W0 W' q H' rx 0 n' m') : Cd W0 W' p q H H' r rx n n' m m' :=
  ⟨h.c.wrote hw h.o h.d.low, hs, fun k h1 h2 => (hw.home k h2).elim (fun e => h.o k h1 e) (fun e => by have := h.c.lt h1; omega)⟩
end Cr
end Go.Proofs.Ytmngaedcckjfoaa
