/- A span as it lies in memory, and what its reading calls answer. -/
import Derived.Test.YtoamabmnbldgkaaDoorTurn
import Derived.Test.YtoamabmnbldgkaaDoorClass
namespace Go.Proofs.YtoamabmnbldgkaaDoor
open Go.RowKit Go.Lib Fx Bm Cl
set_option linter.unusedVariables false

/-- A span's blocks: its head, its two sets; they lie from lo to hi. -/
structure SB where
  lo : Nat
  hi : Nat
  p : Nat
  pu : Nat
  bu : Nat
  pm : Nat
  bm : Nat
structure SB.Fit (B : SB) : Prop where
  p1 : B.lo ≤ B.p ∧ B.p < B.hi
  pu1 : B.lo ≤ B.pu ∧ B.pu < B.hi
  bu1 : B.lo ≤ B.bu ∧ B.bu < B.hi
  pm1 : B.lo ≤ B.pm ∧ B.pm < B.hi
  bm1 : B.lo ≤ B.bm ∧ B.bm < B.hi
  d : B.p ≠ B.pu ∧ B.p ≠ B.bu ∧ B.p ≠ B.pm ∧ B.p ≠ B.bm
  e : B.pu ≠ B.pm ∧ B.pu ≠ B.bm ∧ B.bu ≠ B.pm ∧ B.bu ≠ B.bm
/-- A span of class c at page f, of n places: U are used, V are marked; the last one was found at fr. -/
structure IsSpan (w : World) (B : SB) (f c n fr : Nat) (U V : Nat → Bool) : Prop where
  head : w.heap[B.p]? = some (.cells #[.int .i64 f, .int .i64 c, .pointer (some ⟨B.pu, 0, none⟩), .pointer (some ⟨B.pm, 0, none⟩), .int .i64 fr] 70 (0, 0))
  used : IsSet w B.pu B.bu n U
  marked : IsSet w B.pm B.bm n V
  sub : ∀ i, V i = true → U i = true
  fr : fr ≤ n
  sl : (n : Int) = slotsI c
  cl : c ≤ 15
  f1 : 1 ≤ f
  f2 : f ≤ 262144
  fit : B.Fit
  top : B.hi ≤ w.heap.size
theorem slots_in {k : Int} (h0 : 0 ≤ k) (h1 : k ≤ 15) : 1 ≤ slotsI k ∧ slotsI k ≤ 64 ∧ slotsI k * sizeI k ≤ pagesI k * 64 :=
  each (p := fun k => 1 ≤ slotsI k ∧ slotsI k ≤ 64 ∧ slotsI k * sizeI k ≤ pagesI k * 64) (by decide +kernel) h0 h1
namespace IsSpan
variable {w w' : World} {B : SB} {f c n fr : Nat} {U V : Nat → Bool}
theorem n64 (h : IsSpan w B f c n fr U V) : 1 ≤ n ∧ n ≤ 64 := by
  have := slots_in (k := c) (by omega) (by have := h.cl; omega)
  have := h.sl
  omega
theorem c0 (h : IsSpan w B f c n fr U V) : w.cell? ⟨B.p, 0, none⟩ = some (.int .i64 f) := by unfold World.cell?; rw [h.head]; rfl
theorem c1 (h : IsSpan w B f c n fr U V) : w.cell? ⟨B.p, 1, none⟩ = some (.int .i64 c) := by unfold World.cell?; rw [h.head]; rfl
theorem c2 (h : IsSpan w B f c n fr U V) : w.cell? ⟨B.p, 2, none⟩ = some (.pointer (some ⟨B.pu, 0, none⟩)) := by unfold World.cell?; rw [h.head]; rfl
theorem c3 (h : IsSpan w B f c n fr U V) : w.cell? ⟨B.p, 3, none⟩ = some (.pointer (some ⟨B.pm, 0, none⟩)) := by unfold World.cell?; rw [h.head]; rfl
theorem c4 (h : IsSpan w B f c n fr U V) : w.cell? ⟨B.p, 4, none⟩ = some (.int .i64 fr) := by unfold World.cell?; rw [h.head]; rfl
theorem below (h : IsSpan w B f c n fr U V) (hb : Below w.heap.size w w') : IsSpan w' B f c n fr U V :=
  ⟨by rw [hb.block _ (block_lt h.head)]; exact h.head, h.used.below hb, h.marked.below hb, h.sub, h.fr, h.sl, h.cl, h.f1, h.f2, h.fit, Nat.le_trans h.top hb.size⟩
theorem drewN (h : IsSpan w B f c n fr U V) (k : Nat) : IsSpan (w.drewN k) B f c n fr U V :=
  ⟨h.head, h.used.drewN k, h.marked.drewN k, h.sub, h.fr, h.sl, h.cl, h.f1, h.f2, h.fit, h.top⟩
theorem turned {lo hi : Nat} (h : IsSpan w B f c n fr U V) (ht : Turned lo hi w w') (ho : hi ≤ B.lo ∨ B.hi ≤ lo) : IsSpan w' B f c n fr U V := by
  have ⟨⟨a1, a2⟩, ⟨b1, b2⟩, ⟨c1, c2⟩, ⟨d1, d2⟩, ⟨e1, e2⟩, _, _⟩ := h.fit
  refine ⟨?_, h.used.turned ht (by omega) (by omega), h.marked.turned ht (by omega) (by omega), h.sub, h.fr, h.sl, h.cl, h.f1, h.f2, h.fit, Nat.le_trans h.top ht.size⟩
  rw [ht.block _ (block_lt h.head) (by omega)]; exact h.head
/-- A place found: the head's last cell written. -/
theorem from_ {W : World} (h : IsSpan w B f c n fr U V) {q : Nat} (hq : q ≤ n) (hh : W.heap = (w.setCell ⟨B.p, 4, none⟩ (.int .i64 q)).heap) (ho : W.os = w.os) (ht : W.tape = w.tape) (hu : W.output = w.output) :
    w.grownBy W (some B.p) ∧ IsSpan W B f c n q U V := by
  have hg : w.grownBy W (some B.p) := ⟨ho, ht, hu, by rw [hh]; simp [World.setCell], fun k _ hk => by rw [hh]; exact Below.heap_setCell _ _ _ _ (fun e => hk (by rw [e]))⟩
  have ⟨d1, d2, d3, d4⟩ := h.fit.d
  refine ⟨hg, ⟨?_, h.used.keep hg (fun e => d1 (Option.some.inj e)) (fun e => d2 (Option.some.inj e)), h.marked.keep hg (fun e => d3 (Option.some.inj e)) (fun e => d4 (Option.some.inj e)), h.sub, hq, h.sl, h.cl, h.f1, h.f2, h.fit, Nat.le_trans h.top hg.size⟩⟩
  rw [hh]
  simp only [World.setCell, Array.getElem?_modify]
  rw [h.head]
  rfl
/-- The set of the used ones written. -/
theorem use {U' : Nat → Bool} (h : IsSpan w B f c n fr U V) (hg : w.grownBy w' (some B.bu)) (hs : IsSet w' B.pu B.bu n U') (hsub : ∀ i, V i = true → U' i = true) : IsSpan w' B f c n fr U' V := by
  have ⟨d1, d2, d3, d4⟩ := h.fit.d
  have ⟨e1, e2, e3, e4⟩ := h.fit.e
  refine ⟨?_, hs, h.marked.keep hg (fun e => e3 (Option.some.inj e)) (fun e => e4 (Option.some.inj e)), hsub, h.fr, h.sl, h.cl, h.f1, h.f2, h.fit, Nat.le_trans h.top hg.size⟩
  rw [hg.block _ (block_lt h.head) (fun e => d2 (Option.some.inj e))]; exact h.head
/-- The set of the marked ones written. -/
theorem mark {V' : Nat → Bool} (h : IsSpan w B f c n fr U V) (hg : w.grownBy w' (some B.bm)) (hs : IsSet w' B.pm B.bm n V') (hsub : ∀ i, V' i = true → U i = true) : IsSpan w' B f c n fr U V' := by
  have ⟨d1, d2, d3, d4⟩ := h.fit.d
  have ⟨e1, e2, e3, e4⟩ := h.fit.e
  refine ⟨?_, h.used.keep hg (fun e => e2 (Option.some.inj e).symm) (fun e => e4 (Option.some.inj e).symm), hs, hsub, h.fr, h.sl, h.cl, h.f1, h.f2, h.fit, Nat.le_trans h.top hg.size⟩
  rw [hg.block _ (block_lt h.head) (fun e => d4 (Option.some.inj e))]; exact h.head
end IsSpan

section
variable {B : SB} {f c n fr : Nat} {U V : Nat → Bool}
set_option maxRecDepth 100000 in
theorem span_class (w : World) (h : IsSpan w B f c n fr U V) : Calls Tryd.prog 33 #[.pointer (some ⟨B.p, 0, none⟩)] w (Same (.int .i64 c) w) := by
  have c1 := h.c1
  clear h
  go_enter Tryd.func33, Tryd.ntmps33
  go_wp2_with fail
  go_ret
  exact ⟨rfl, rfl⟩
set_option maxRecDepth 100000 in
theorem span_base (w : World) (h : IsSpan w B f c n fr U V) : Calls Tryd.prog 32 #[.pointer (some ⟨B.p, 0, none⟩)] w (Same (.int .i64 ((f : Int) * 64)) w) := by
  have c0 := h.c0
  have f2 := h.f2
  clear h
  go_enter Tryd.func32, Tryd.ntmps32
  go_wp2_with fail
  go_ret
  exact ⟨rfl, rfl⟩
set_option maxRecDepth 100000 in
theorem span_slots (w : World) (h : IsSpan w B f c n fr U V) : Calls Tryd.prog 27 #[.pointer (some ⟨B.p, 0, none⟩)] w (Same (.int .i64 n) w) := by
  have c2 := h.c2
  have cl := setlen_any _ _ w h.used.c0
  clear h
  go_enter Tryd.func27, Tryd.ntmps27
  go_wp2_with (go_at_call 10; ((with_reducible refine cl.mono ?_); rintro e w' ⟨rfl, rfl⟩))
  go_ret
  exact ⟨rfl, rfl⟩
set_option maxRecDepth 100000 in
theorem span_live (w : World) (h : IsSpan w B f c n fr U V) : Calls Tryd.prog 30 #[.pointer (some ⟨B.p, 0, none⟩)] w (Ans (.int .i64 (cnt U n)) w) := by
  have c2 := h.c2
  have cl := setcount_any w h.used
  clear h
  go_enter Tryd.func30, Tryd.ntmps30
  go_wp2_with (go_at_call 20; ((with_reducible refine cl.mono ?_); rintro e w' ⟨rfl, k, rfl⟩))
  go_ret
  exact ⟨rfl, _, rfl⟩
set_option maxRecDepth 100000 in
theorem span_used (i : Int) (w : World) (h : IsSpan w B f c n fr U V) : Calls Tryd.prog 37 #[.pointer (some ⟨B.p, 0, none⟩), .int .i64 i] w (Ans (.bool (hasI U i)) w) := by
  have c2 := h.c2
  have cl := sethas_any i w h.used
  clear h
  go_enter Tryd.func37, Tryd.ntmps37
  go_wp2_with (go_at_call 19; ((with_reducible refine cl.mono ?_); rintro e w' ⟨rfl, k, rfl⟩))
  go_ret
  exact ⟨rfl, _, rfl⟩
set_option maxRecDepth 100000 in
theorem span_marked (i : Int) (w : World) (h : IsSpan w B f c n fr U V) : Calls Tryd.prog 38 #[.pointer (some ⟨B.p, 0, none⟩), .int .i64 i] w (Ans (.bool (hasI V i)) w) := by
  have c2 := h.c3
  have cl := sethas_any i w h.marked
  clear h
  go_enter Tryd.func38, Tryd.ntmps38
  go_wp2_with (go_at_call 19; ((with_reducible refine cl.mono ?_); rintro e w' ⟨rfl, k, rfl⟩))
  go_ret
  exact ⟨rfl, _, rfl⟩
set_option maxRecDepth 100000 in
theorem span_full (w : World) (h : IsSpan w B f c n fr U V) (hT : TabAt w) : Calls Tryd.prog 40 #[.pointer (some ⟨B.p, 0, none⟩)] w (Ans (.bool (decide (nextI U n fr false < 0))) w) := by
  have c2 := h.c2
  have c4 := h.c4
  have cl : Hid (∀ j, Calls Tryd.prog 16 #[.pointer (some ⟨B.pu, 0, none⟩), .int .i64 fr, .bool false] (w.drewN j) (Ans (.int .i64 (nextI U n fr false)) (w.drewN j))) := fun j => by
    have := Same.ans (setnext_any (fr : Int) false _ (h.used.drewN j) (hT.drewN j))
    rwa [Int.toNat_natCast] at this
  generalize nextI U n fr false = R at *
  clear h
  go_enter Tryd.func40, Tryd.ntmps40
  go_wp2_with fail
  go_quiet ((go_at_call 16; refine quiet_ans1 (cl.out _)))
  go_wp2_with fail
  go_ret
  exact ⟨rfl, _, rfl⟩

theorem slots_u {n c : Nat} (h : (n : Int) = slotsI c) (hc : c ≤ 15) : 1 ≤ n ∧ n ≤ 64 ∧ (n : Int) * sizeI c ≤ pagesI c * 64 := by
  have := slots_in (k := c) (by omega) (by omega)
  rw [← h] at this
  omega
set_option maxRecDepth 100000 in
set_option maxHeartbeats 1000000 in
theorem span_addr (i : Int) (w : World) (h : IsSpan w B f c n fr U V) : Calls Tryd.prog 42 #[.pointer (some ⟨B.p, 0, none⟩), .int .i64 i] w (AnsB (.int .i64 (if 0 ≤ i ∧ i < (n : Int) then (f : Int) * 64 + i * sizeI c else 0)) w) := by
  have c1 := h.c1
  have cs := span_slots w h
  have hn := h.n64
  have f2 := h.f2
  have hz := size_in (k := c) (by omega) (by have := h.cl; omega)
  by_cases h0 : 0 ≤ i
  · by_cases h1 : i < (n : Int)
    · rw [if_pos ⟨h0, h1⟩]
      have hd : decide (i < (n : Int)) = true := decide_eq_true h1
      have cb : Hid (∀ w', Below w.heap.size w w' → Calls Tryd.prog 32 #[.pointer (some ⟨B.p, 0, none⟩)] w' (AnsB (.int .i64 ((f : Int) * 64)) w')) := fun w' hb => (span_base w' (h.below hb)).mono fun e w'' ⟨he, hw⟩ => ⟨he, by rw [← hw]; exact Below.refl _ _⟩
      have cz : Hid (∀ w', Calls Tryd.prog 53 #[.int .i64 c] w' (AnsB (.int .i64 (sizeI c)) w')) := fun w' => size_any4 c w'
      have hpl : B.p < w.heap.size := block_lt h.head
      have m1 : i * sizeI c ≤ 64 * 256 := Int.mul_le_mul (by omega) hz.2 (by omega) (by omega)
      have m0 : 0 ≤ i * sizeI c := Int.mul_nonneg h0 (by omega)
      clear h
      have e1 : IntKind.i64.wrap (i * sizeI c) = i * sizeI c := IntWalk.i64_in _ ⟨by omega, by omega⟩
      have e2 : IntKind.i64.wrap ((f : Int) * 64 + i * sizeI c) = (f : Int) * 64 + i * sizeI c := IntWalk.i64_in _ ⟨by omega, by omega⟩
      generalize sizeI (c : Int) = S at *
      go_enter Tryd.func42, Tryd.ntmps42
      go_wp2_with (go_at_call 27; ((with_reducible refine cs.mono ?_); rintro e w' ⟨rfl, rfl⟩))
      have hb0 : Below w.heap.size w w := Below.refl _ _
      go_region_held3 (fun W' => Below w.heap.size w W' ∧ W'.cell? ⟨B.p, 1, none⟩ = some (.int .i64 c)) (first | exact ⟨hb0.drew, c1⟩ | go_keep | (go_split_ands; exact ⟨below_then (by assumption) (by assumption), cell_then (by assumption) (by assumption)⟩)) (first | (go_at_call 32; ((with_reducible refine (cb.out _ (by first | assumption | exact (by assumption : _ ∧ _).1)).mono ?_); rintro e w' ⟨rfl, hb⟩)) | (go_at_call 53; ((with_reducible refine (cz.out _).mono ?_); rintro e w' ⟨rfl, hb⟩)))
      go_wp2_with fail
      go_ret
      exact ⟨rfl, by first | assumption | exact (by assumption : _ ∧ _).1 | exact ‹_ ∧ _›.1⟩
    · rw [if_neg (by omega)]
      have hd : decide (i < (n : Int)) = false := decide_eq_false h1
      clear h
      go_enter Tryd.func42, Tryd.ntmps42
      go_wp2_with (go_at_call 27; ((with_reducible refine cs.mono ?_); rintro e w' ⟨rfl, rfl⟩))
      go_ret
      exact ⟨rfl, Below.refl _ _⟩
  · rw [if_neg (by omega)]
    have hd : decide (0 ≤ i) = false := decide_eq_false h0
    clear h
    go_enter Tryd.func42, Tryd.ntmps42
    go_wp2_with fail
    go_ret
    exact ⟨rfl, Below.refl _ _⟩

set_option maxRecDepth 100000 in
set_option maxHeartbeats 1000000 in
theorem span_at_low (x : Int) (w : World) (h : IsSpan w B f c n fr U V) (hx : x < (f : Int) * 64) : Calls Tryd.prog 44 #[.pointer (some ⟨B.p, 0, none⟩), .int .i64 x] w (AnsB (.tuple #[.int .i64 0, .bool false]) w) := by
  have cb := span_base w h
  have hd : decide (x < (f : Int) * 64) = true := decide_eq_true hx
  clear h
  go_enter Tryd.func44, Tryd.ntmps44
  go_wp2_with (go_at_call 32; ((with_reducible refine cb.mono ?_); rintro e w' ⟨rfl, rfl⟩))
  go_ret2
  exact ⟨rfl, Below.refl _ _⟩
theorem at_div {n S k x : Int} (hS : 1 ≤ S) (hx : 0 ≤ x) : x.tmod S = x % S ∧ x.tdiv S = x / S :=
  ⟨Int.tmod_eq_emod_of_nonneg hx, Int.tdiv_eq_ediv_of_nonneg hx⟩
set_option maxRecDepth 100000 in
set_option maxHeartbeats 1000000 in
theorem span_at_any (X : Int) (w : World) (h : IsSpan w B f c n fr U V) (hX : (f : Int) * 64 ≤ X) (hX2 : X ≤ 9223372036854775807) : Calls Tryd.prog 44 #[.pointer (some ⟨B.p, 0, none⟩), .int .i64 X] w
    (AnsB (if (X - (f : Int) * 64) % sizeI c = 0 ∧ (X - (f : Int) * 64) / sizeI c < n then .tuple #[.int .i64 ((X - (f : Int) * 64) / sizeI c), .bool true] else .tuple #[.int .i64 0, .bool false]) w) := by
  have c1 := h.c1
  have hn := h.n64
  have f2 := h.f2
  have hz := size_in (k := c) (by omega) (by have := h.cl; omega)
  have cb : Hid (∀ w', Below w.heap.size w w' → Calls Tryd.prog 32 #[.pointer (some ⟨B.p, 0, none⟩)] w' (Same (.int .i64 ((f : Int) * 64)) w')) := fun w' hb => span_base w' (h.below hb)
  have cz : Hid (∀ w', Calls Tryd.prog 53 #[.int .i64 c] w' (AnsB (.int .i64 (sizeI c)) w')) := fun w' => size_any4 c w'
  have cl : Hid (∀ w', Below w.heap.size w w' → Calls Tryd.prog 27 #[.pointer (some ⟨B.p, 0, none⟩)] w' (Ans (.int .i64 n) w')) := fun w' hb => Same.ans (span_slots w' (h.below hb))
  clear h
  generalize sizeI (c : Int) = S at *
  obtain ⟨hS1, hS2⟩ := hz
  have hS : ¬ S = 0 := by omega
  have hS0 : (S == 0) = false := by simpa using hS
  obtain ⟨t1, t2⟩ := at_div (n := 0) (k := 0) hS1 (show 0 ≤ X - (f : Int) * 64 by omega)
  have q0 : 0 ≤ (X - (f : Int) * 64) / S := Int.ediv_nonneg (by omega) (by omega)
  have q1 : (X - (f : Int) * 64) / S ≤ X := Int.le_trans (Int.ediv_le_self _ (by omega)) (by omega)
  by_cases hr : (X - (f : Int) * 64) % S = 0
  · by_cases hq : (X - (f : Int) * 64) / S < n
    · rw [if_pos ⟨hr, hq⟩]
      rw [← t1] at hr
      rw [← t2] at hq q0 q1 ⊢
      have r3 : ((X - (f : Int) * 64).tmod S != 0) = false := by rw [hr]; rfl
      have r4 : decide ((n : Int) ≤ (X - (f : Int) * 64).tdiv S) = false := decide_eq_false (by omega)
      clear t1 t2
      go_enter Tryd.func44, Tryd.ntmps44
      go_wp2_with fail
      refine (cb.out _ (Below.refl _ _)).mono ?_
      rintro e w' ⟨rfl, rfl⟩
      go_wp2_with fail
      refine (cz.out _).mono ?_
      rintro e w1 ⟨rfl, hb⟩
      have c1 := cell_then hb c1
      go_wp2_with fail
      refine (cb.out _ hb).mono ?_
      rintro e w' ⟨rfl, rfl⟩
      have cl : Hid (∀ j, Calls Tryd.prog 27 #[.pointer (some ⟨B.p, 0, none⟩)] (w1.drewN j) (Ans (.int .i64 n) (w1.drewN j))) := fun j => cl.out _ (below_drewN hb j)
      go_wp2_with fail
      go_quiet ((go_at_call 27; refine quiet_ans1 (cl.out _)))
      go_wp2_with fail
      go_ret2
      exact ⟨rfl, below_drewN hb _⟩
    · rw [if_neg (by omega)]
      rw [← t1] at hr
      rw [← t2] at hq q0 q1
      have r3 : ((X - (f : Int) * 64).tmod S != 0) = false := by rw [hr]; rfl
      have r4 : decide ((n : Int) ≤ (X - (f : Int) * 64).tdiv S) = true := decide_eq_true (by omega)
      clear t1 t2
      go_enter Tryd.func44, Tryd.ntmps44
      go_wp2_with fail
      refine (cb.out _ (Below.refl _ _)).mono ?_
      rintro e w' ⟨rfl, rfl⟩
      go_wp2_with fail
      refine (cz.out _).mono ?_
      rintro e w1 ⟨rfl, hb⟩
      have c1 := cell_then hb c1
      go_wp2_with fail
      refine (cb.out _ hb).mono ?_
      rintro e w' ⟨rfl, rfl⟩
      have cl : Hid (∀ j, Calls Tryd.prog 27 #[.pointer (some ⟨B.p, 0, none⟩)] (w1.drewN j) (Ans (.int .i64 n) (w1.drewN j))) := fun j => cl.out _ (below_drewN hb j)
      go_wp2_with fail
      go_quiet ((go_at_call 27; refine quiet_ans1 (cl.out _)))
      go_wp2_with fail
      go_ret2
      exact ⟨rfl, below_drewN hb _⟩
  · rw [if_neg (by omega)]
    rw [← t1] at hr
    have r3 : ((X - (f : Int) * 64).tmod S != 0) = true := by simpa using hr
    clear t1 t2 hr
    go_enter Tryd.func44, Tryd.ntmps44
    go_wp2_with fail
    refine (cb.out _ (Below.refl _ _)).mono ?_
    rintro e w' ⟨rfl, rfl⟩
    go_wp2_with fail
    refine (cz.out _).mono ?_
    rintro e w1 ⟨rfl, hb⟩
    have c1 := cell_then hb c1
    go_wp2_with fail
    refine (cb.out _ hb).mono ?_
    rintro e w' ⟨rfl, rfl⟩
    go_wp2_with fail
    go_quiet (fail)
    go_wp2_with fail
    go_ret2
    exact ⟨rfl, below_drewN hb _⟩
end
end Go.Proofs.YtoamabmnbldgkaaDoor
