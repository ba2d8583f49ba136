/- code.Decode: what a script's bytes mean, or the first that is wrong. -/
import Derived.Test.YtapkcjbfflgplaaDoorReadQ
import Derived.Defers
import Derived.Recover
import Derived.Laws.Pointers
namespace Go.Proofs.YtapkcjbfflgplaaDoor
open Go.RowKit Go.Lib Fx Ho Gr
set_option linter.unusedVariables false
namespace Cd
variable {w w' W wr : World} {v fv : Value} {G nf len n : Int} {fs : List (List Ins)} {R p q j M N k : Nat} {zs : List Int} {L l : List Ins} {Bs : List Nat}
theorem below_of_w {H H' : Home} {lo : Nat} (h : Wrote H w H' w') (hl : Low lo H) (hs : lo ≤ w.heap.size) : Below lo w w' := ⟨h.os, h.tape, h.output, h.size, fun k hk => h.block k (by omega) (fun hh => by have := hl k hh; omega)⟩
/-- What Decode's own variables hold. -/
structure Dv (w : World) (V P E A R : Nat) (a b c d : Value) : Prop where
  v : w.heap[V]? = some (.cells #[.pointer (some ⟨R, 0, none⟩)] 107 (0, 0))
  p : w.heap[P]? = some (.cells #[a, b] 49 (0, 0))
  e : w.heap[E]? = some (.cells #[c] 3 (0, 0))
  a : w.heap[A]? = some (.cells #[d] 3 (0, 0))
  ne : P ≠ E ∧ P ≠ A ∧ E ≠ A ∧ V ≠ P ∧ V ≠ E ∧ V ≠ A
set_option maxRecDepth 100000 in
set_option maxHeartbeats 2000000 in
theorem catch_panicking {V P E A : Nat} {a b c d : Value} {at_ : Int} (h : Dv w V P E A R a b c d) (hr : w.cell? ⟨R, 1, none⟩ = some (.int .i64 at_)) (u : TypeId) (pv : Value) (older : List PanicEntry) :
    CallsD Tryd.prog 60 #[.pointer (some ⟨V, 0, none⟩), .pointer (some ⟨P, 0, none⟩), .pointer (some ⟨E, 0, none⟩), .pointer (some ⟨A, 0, none⟩)] (.panicking ({ v := .iface u pv, recovered := false } :: older)) w fun e u' w' =>
      e = .returned (.tuple #[]) ∧ u' = .panicking ({ v := .iface u pv, recovered := true } :: older) ∧ w' = ((((w.setCell ⟨P, 0, none⟩ (.int .i64 0)).setCell ⟨P, 1, none⟩ (.slice none 0 0)).setCell ⟨E, 0, none⟩ (.int .i64 6)).setCell ⟨A, 0, none⟩ (.int .i64 at_)) := by
  have c0 : w.cell? ⟨V, 0, none⟩ = some (.pointer (some ⟨R, 0, none⟩)) := cell_of h.v rfl
  have c1 : w.cell? ⟨P, 0, none⟩ = some a := cell_of h.p rfl
  have c2 : w.cell? ⟨P, 1, none⟩ = some b := cell_of h.p rfl
  have c3 : w.cell? ⟨E, 0, none⟩ = some c := cell_of h.e rfl
  have c4 : w.cell? ⟨A, 0, none⟩ = some d := cell_of h.a rfl
  have f1 : w.frozen? ⟨P, 0, none⟩ = false := frozen_of_row _ _ _ _ _ h.p
  have f2 : w.frozen? ⟨P, 1, none⟩ = false := frozen_of_row _ _ _ _ _ h.p
  have f3 : w.frozen? ⟨E, 0, none⟩ = false := frozen_of_row _ _ _ _ _ h.e
  have f4 : w.frozen? ⟨A, 0, none⟩ = false := frozen_of_row _ _ _ _ _ h.a
  obtain ⟨n1, n2, n3, n4, n5, n6⟩ := h.ne
  refine callsD_of_wpS Tryd.func60 rfl fun c₀ cs hu => ?_
  apply wpS_seq
  apply wpS_region
  simp [wpOpsS, go_sem, recoverD, hu, Tryd.ntmps60, Exit.thenS]
  refine wpS_cond (t := true) (by simp [Act.eval, Array.replicate]) ?_
  simp only [if_true]
  refine wpS_of_wp ?_
  simp only [Array.replicate_succ, Array.replicate_zero, List.push_toArray, List.append_toArray, List.setIfInBounds_toArray, List.set_cons_zero, List.set_cons_succ, List.nil_append, List.cons_append]
  go_wp2_with fail
  simp [bodyPostS, results, Tryd.results60]
theorem catch_idle (args : Array Value) (x0 x1 x2 x3 : Value) (w : World) :
    CallsD Tryd.prog 60 #[x0, x1, x2, x3] .returning w fun e u' w' => e = .returned (.tuple #[]) ∧ u' = .returning ∧ w' = w := by
  refine callsD_of_wpS Tryd.func60 rfl fun c₀ cs hu => ?_
  apply wpS_seq
  apply wpS_region
  simp [wpOpsS, go_sem, recoverD, hu, Tryd.ntmps60, Exit.thenS]
  refine wpS_cond (t := false) (by simp [Act.eval, Array.replicate]) ?_
  simp only [Bool.false_eq_true, if_false]
  refine wpS_of_wp (wp_skip ?_)
  cases c₀
  simp_all [bodyPostS, results, Tryd.results60]
theorem five_blocks {o0 o1 o2 o3 o4 : Array Value} {t0 t1 t2 t3 t4 : TypeId} (w : World) : let U := ((((w.alloc (.cells o0 t0)).alloc (.cells o1 t1)).alloc (.cells o2 t2)).alloc (.cells o3 t3)).alloc (.cells o4 t4); U.heap[w.heap.size]? = some (.cells o0 t0 (0, 0)) ∧ U.heap[w.heap.size + 1]? = some (.cells o1 t1 (0, 0)) ∧ U.heap[w.heap.size + 1 + 1]? = some (.cells o2 t2 (0, 0)) ∧ U.heap[w.heap.size + 1 + 1 + 1]? = some (.cells o3 t3 (0, 0)) ∧ U.heap[w.heap.size + 1 + 1 + 1 + 1]? = some (.cells o4 t4 (0, 0)) ∧ Below w.heap.size w U := by
  have s1 : ∀ (u : World) (o : Obj), (u.alloc o).heap.size = u.heap.size + 1 := fun u o => by show (u.heap.push _).size = _; rw [Array.size_push]
  have step : ∀ (u : World) (k : Nat) (x : Obj) (a : Array Value) (t : TypeId), u.heap[k]? = some x → (u.alloc (.cells a t)).heap[k]? = some x := fun u k x a t h => ((below_alloc (Below.refl u.heap.size u) _).block k (block_lt h)).trans h
  have h0 := heap_alloc_new w (.cells o0 t0)
  have h1 := heap_alloc_new (w.alloc (.cells o0 t0)) (.cells o1 t1)
  have h2 := heap_alloc_new ((w.alloc (.cells o0 t0)).alloc (.cells o1 t1)) (.cells o2 t2)
  have h3 := heap_alloc_new (((w.alloc (.cells o0 t0)).alloc (.cells o1 t1)).alloc (.cells o2 t2)) (.cells o3 t3)
  have h4 := heap_alloc_new ((((w.alloc (.cells o0 t0)).alloc (.cells o1 t1)).alloc (.cells o2 t2)).alloc (.cells o3 t3)) (.cells o4 t4)
  rw [s1] at h1
  rw [s1, s1] at h2
  rw [s1, s1, s1] at h3
  rw [s1, s1, s1, s1] at h4
  exact ⟨step _ _ _ _ _ (step _ _ _ _ _ (step _ _ _ _ _ (step _ _ _ _ _ h0))), step _ _ _ _ _ (step _ _ _ _ _ (step _ _ _ _ _ h1)), step _ _ _ _ _ (step _ _ _ _ _ h2), step _ _ _ _ _ h3, h4, below_alloc (below_alloc (below_alloc (below_alloc (below_alloc (Below.refl _ _) _) _) _) _) _⟩
theorem dec_start (w : World) (h : BRow w (fun k => k < w.heap.size) v zs) : let U := ((((w.alloc (.cells #[.int .i64 0, .slice none 0 0] 49)).alloc (.cells #[.int .i64 0] 3)).alloc (.cells #[.int .i64 0] 3)).alloc (.cells #[v, .int .i64 0] 109)).alloc (.cells #[.pointer (some ⟨w.heap.size + 1 + 1 + 1, 0, none⟩)] 107); Dv U (w.heap.size + 1 + 1 + 1 + 1) w.heap.size (w.heap.size + 1) (w.heap.size + 1 + 1) (w.heap.size + 1 + 1 + 1) (.int .i64 0) (.slice none 0 0) (.int .i64 0) (.int .i64 0) ∧ Rd U (w.heap.size + 1 + 1 + 1) v zs 0 ∧ Below w.heap.size w U := by
  obtain ⟨h0, h1, h2, h3, h4, hb⟩ := five_blocks (o0 := #[.int .i64 0, .slice none 0 0]) (o1 := #[.int .i64 0]) (o2 := #[.int .i64 0]) (o3 := #[v, .int .i64 0]) (o4 := #[.pointer (some ⟨w.heap.size + 1 + 1 + 1, 0, none⟩)]) (t0 := 49) (t1 := 3) (t2 := 3) (t3 := 109) (t4 := 107) w
  refine ⟨⟨h4, h0, h1, h2, by omega, by omega, by omega, by omega, by omega, by omega⟩, ⟨h3, ?_, Nat.zero_le _⟩, hb⟩
  obtain ⟨sp, cap, e, hm, hc⟩ := h
  refine ⟨sp, cap, e, hm, fun i hi => ?_⟩
  obtain ⟨b, off, e2, h5, h6, h7, h8⟩ := hc i hi
  exact ⟨b, off, e2, by show b < w.heap.size + 1 + 1 + 1; omega, Nat.lt_of_lt_of_le h6 hb.size, cell_then hb h7, h8⟩
theorem Dv.wrote {V P E A : Nat} {a b c d : Value} {H H' : Home} (h : Dv w V P E A R a b c d) (hw : Wrote H w H' w') (h1 : ¬ H V) (h2 : ¬ H P) (h3 : ¬ H E) (h4 : ¬ H A) : Dv w' V P E A R a b c d :=
  ⟨(hw.block V (block_lt h.v) h1).trans h.v, (hw.block P (block_lt h.p) h2).trans h.p, (hw.block E (block_lt h.e) h3).trans h.e, (hw.block A (block_lt h.a) h4).trans h.a, h.ne⟩
/-- The results are stored. -/
theorem Dv.store {V P E A : Nat} {a b c d x y z t : Value} (h : Dv w V P E A R a b c d) : let U := (((w.setCell ⟨P, 0, none⟩ x).setCell ⟨P, 1, none⟩ y).setCell ⟨E, 0, none⟩ z).setCell ⟨A, 0, none⟩ t; Dv U V P E A R x y z t ∧ Wrote (fun k => k = P ∨ k = E ∨ k = A) w (fun k => k = P ∨ k = E ∨ k = A) U := by
  obtain ⟨n1, n2, n3, n4, n5, n6⟩ := h.ne
  have w1 : ∀ (U : World) (B j : Nat) (u : Value), Wrote (fun k => k = B) U (fun k => k = B) (U.setCell ⟨B, j, none⟩ u) := fun U B j u => wrote_setCell (a := ⟨B, j, none⟩) rfl rfl rfl rfl rfl
  have p0 := heap_setCell_same w P 0 _ _ x h.p
  have p1 := heap_setCell_same _ P 1 _ _ y p0
  have g1 := (w1 w P 0 x).trans (w1 _ P 1 y)
  have e0 : ((w.setCell ⟨P, 0, none⟩ x).setCell ⟨P, 1, none⟩ y).heap[E]? = _ := (g1.block E (block_lt h.e) (fun e => n1 (show E = P from e).symm)).trans h.e
  have a0 : ((w.setCell ⟨P, 0, none⟩ x).setCell ⟨P, 1, none⟩ y).heap[A]? = _ := (g1.block A (block_lt h.a) (fun e => n2 (show A = P from e).symm)).trans h.a
  have v0 : ((w.setCell ⟨P, 0, none⟩ x).setCell ⟨P, 1, none⟩ y).heap[V]? = _ := (g1.block V (block_lt h.v) (fun e => n4 (show V = P from e))).trans h.v
  have e1 := heap_setCell_same _ E 0 _ _ z e0
  have g2 := w1 ((w.setCell ⟨P, 0, none⟩ x).setCell ⟨P, 1, none⟩ y) E 0 z
  have p2 := (g2.block P (block_lt p1) (fun e => n1 (show P = E from e))).trans p1
  have a1 := (g2.block A (block_lt a0) (fun e => n3 (show A = E from e).symm)).trans a0
  have v1 := (g2.block V (block_lt v0) (fun e => n5 (show V = E from e))).trans v0
  have a2 := heap_setCell_same _ A 0 _ _ t a1
  have g3 := w1 (((w.setCell ⟨P, 0, none⟩ x).setCell ⟨P, 1, none⟩ y).setCell ⟨E, 0, none⟩ z) A 0 t
  have p3 := (g3.block P (block_lt p2) (fun e => n2 (show P = A from e))).trans p2
  have e2 := (g3.block E (block_lt e1) (fun e => n3 (show E = A from e))).trans e1
  have v2 := (g3.block V (block_lt v1) (fun e => n6 (show V = A from e))).trans v1
  have wd : ∀ {U U' : World} {B : Nat}, (B = P ∨ B = E ∨ B = A) → Wrote (fun k => k = B) U (fun k => k = B) U' → Wrote (fun k => k = P ∨ k = E ∨ k = A) U (fun k => k = P ∨ k = E ∨ k = A) U' := fun {U U' B} hB g => ⟨g.os, g.tape, g.output, g.size, fun k hk hn => g.block k hk (fun e => hn (by have e : k = B := e; rw [e]; exact hB)), fun k hk => .inl hk⟩
  exact ⟨⟨v2, p3, e2, a2, h.ne⟩, (((wd (.inl rfl) (w1 w P 0 x)).trans (wd (.inl rfl) (w1 _ P 1 y))).trans (wd (.inr (.inl rfl)) g2)).trans (wd (.inr (.inr rfl)) g3)⟩
/-- What Decode answers. -/
def DecR (w : World) (zs : List Int) (e : Ending) (w' : World) : Prop :=
  (∃ G fs fv, progE zs = .ok (G, fs) ∧ e = .returned (.tuple #[.agg #[.int .i64 G, fv], .int .i64 0, .int .i64 0]) ∧ FRow w' fv fs ∧ Below w.heap.size w w') ∨
  (∃ q : Nat, progE zs = .error q ∧ e = .returned (.tuple #[.agg #[.int .i64 0, .slice none 0 0], .int .i64 6, .int .i64 q]) ∧ Below w.heap.size w w')
set_option maxRecDepth 100000 in
set_option maxHeartbeats 4000000 in
theorem decode_any (hT : Tk w) (h : BRow w (fun k => k < w.heap.size) v zs) : Calls Tryd.prog 37 #[v] w (DecR w zs) := by
  have hmf : ∀ (fn : Fn) (first cap : Array Value) (w : World), (Instr.makeFunc fn first cap).run Tryd.prog w = .ok (.func fn first cap) w := fun _ _ _ _ => rfl
  obtain ⟨sp, cap, ev, hm, hc⟩ := id h
  have hst := dec_start w h
  subst ev
  simp only at hst
  obtain ⟨hD, hR, hb⟩ := hst
  have cp := program_any (hT.below hb) hR (by omega)
  replace hD := Lib.hid hD
  replace hb := Lib.hid hb
  clear h hT hc hR
  obtain ⟨N, hN⟩ : ∃ N, w.heap.size = N := ⟨_, rfl⟩
  go_enter_defers Tryd.func37, Tryd.ntmps37
  go_wp2_with fail
  rw [hN] at hD cp hb
  obtain ⟨U, hU⟩ : ∃ U, ((((w.alloc (.cells #[.int .i64 0, .slice none 0 0] 49)).alloc (.cells #[.int .i64 0] 3)).alloc (.cells #[.int .i64 0] 3)).alloc (.cells #[.slice sp zs.length cap, .int .i64 0] 109)).alloc (.cells #[.pointer (some ⟨N + 1 + 1 + 1, 0, none⟩)] 107) = U := ⟨_, rfl⟩
  rw [hU] at hD cp hb ⊢
  clear hU
  with_reducible refine Calls.mono cp ?_
  rintro e w5 (⟨G, fs, fv, q, hE, rfl, hF, hR5, hw5⟩ | ⟨q, hE, ⟨⟨u, pv⟩, rfl⟩, hR5, hw5⟩)
  · have hD5 := hD.out.wrote hw5 (fun e => by have e : N + 1 + 1 + 1 + 1 = N + 1 + 1 + 1 := e; omega) (fun e => by have e : N = N + 1 + 1 + 1 := e; omega) (fun e => by have e : N + 1 = N + 1 + 1 + 1 := e; omega) (fun e => by have e : N + 1 + 1 = N + 1 + 1 + 1 := e; omega)
    obtain ⟨hD6, hw6⟩ := hD5.store (x := .int .i64 G) (y := fv) (z := .int .i64 0) (t := .int .i64 0)
    have p0 : w5.cell? ⟨N, 0, none⟩ = some (.int .i64 0) := cell_of hD5.p rfl
    have p1 : w5.cell? ⟨N, 1, none⟩ = some (.slice none 0 0) := cell_of hD5.p rfl
    have e0 : w5.cell? ⟨N + 1, 0, none⟩ = some (.int .i64 0) := cell_of hD5.e rfl
    have a0 : w5.cell? ⟨N + 1 + 1, 0, none⟩ = some (.int .i64 0) := cell_of hD5.a rfl
    have f0 := frozen_of_row _ _ 0 _ _ hD5.p
    have f1 := frozen_of_row _ _ 1 _ _ hD5.p
    have f2 := frozen_of_row _ _ 0 _ _ hD5.e
    have f3 := frozen_of_row _ _ 0 _ _ hD5.a
    have q0 := cell_of hD6.p (j := 0) rfl
    have q1 := cell_of hD6.p (j := 1) rfl
    have q2 := cell_of hD6.e (j := 0) rfl
    have q3 := cell_of hD6.a (j := 0) rfl
    obtain ⟨sv, cv, rfl, _⟩ := hF w5 (fun _ => False) (fun _ => False) (Wrote.refl _ _) (fun k h => h.elim)
    have hb5 := hb.out.trans (below_of_w (lo := N) hw5 (fun k e => by have e : k = N + 1 + 1 + 1 := e; omega) (by have := hb.out.size; omega))
    have hs5 := hb5.size
    have hlow : Low N (fun k => k = N ∨ k = N + 1 ∨ k = N + 1 + 1) := fun k e => by rcases e with e | e | e <;> omega
    have hb6 := hb5.trans (below_of_w (lo := N) hw6 hlow (by omega))
    clear cp hR5
    go_wp2_with fail
    obtain ⟨w6, hw6e⟩ : ∃ w6, (((w5.setCell ⟨N, 0, none⟩ (.int .i64 G)).setCell ⟨N, 1, none⟩ (.slice sv fs.length cv)).setCell ⟨N + 1, 0, none⟩ (.int .i64 0)).setCell ⟨N + 1 + 1, 0, none⟩ (.int .i64 0) = w6 := ⟨_, rfl⟩
    rw [hw6e] at q0 q1 q2 q3 hw6 hb6 ⊢
    have hF6 : FRow w6 (.slice sv fs.length cv) fs := hF w6 _ _ hw6 (fun k e => by have := block_lt hD.out.v; rcases e with e | e | e <;> omega)
    clear hw6e p0 p1 e0 a0 f0 f1 f2 f3
    refine leaves_cons (f := 60) (args := #[.pointer (some ⟨N + 1 + 1 + 1 + 1, 0, none⟩), .pointer (some ⟨N, 0, none⟩), .pointer (some ⟨N + 1, 0, none⟩), .pointer (some ⟨N + 1 + 1, 0, none⟩)]) (by simp) (by simp [go_sem]) ?_
    refine (catch_idle #[] _ _ _ _ _).mono ?_
    rintro e u' w'' ⟨rfl, rfl, rfl⟩
    have hfin : DecR w zs (.returned (.tuple #[.agg #[.int .i64 G, .slice sv fs.length cv], .int .i64 0, .int .i64 0])) w'' := .inl ⟨G, fs, _, hE, rfl, hF6, by rw [hN]; exact hb6⟩
    simp [Leaves, settle, results, Tryd.results37, go_sem, q0, q1, q2, q3]
    exact hfin
  · refine leaves_cons (f := 60) (args := #[.pointer (some ⟨N + 1 + 1 + 1 + 1, 0, none⟩), .pointer (some ⟨N, 0, none⟩), .pointer (some ⟨N + 1, 0, none⟩), .pointer (some ⟨N + 1 + 1, 0, none⟩)]) (by simp) (by simp [go_sem]) ?_
    have hD5 := hD.out.wrote hw5 (fun e => by have e : N + 1 + 1 + 1 + 1 = N + 1 + 1 + 1 := e; omega) (fun e => by have e : N = N + 1 + 1 + 1 := e; omega) (fun e => by have e : N + 1 = N + 1 + 1 + 1 := e; omega) (fun e => by have e : N + 1 + 1 = N + 1 + 1 + 1 := e; omega)
    obtain ⟨hD6, hw6⟩ := hD5.store (x := .int .i64 0) (y := .slice none 0 0) (z := .int .i64 6) (t := .int .i64 q)
    have hb5 := hb.out.trans (below_of_w (lo := N) hw5 (fun k e => by have e : k = N + 1 + 1 + 1 := e; omega) (by have := hb.out.size; omega))
    have hs5 := hb5.size
    have hlow : Low N (fun k => k = N ∨ k = N + 1 ∨ k = N + 1 + 1) := fun k e => by rcases e with e | e | e <;> omega
    have hb6 := hb5.trans (below_of_w (lo := N) hw6 hlow (by omega))
    have q0 := cell_of hD6.p (j := 0) rfl
    have q1 := cell_of hD6.p (j := 1) rfl
    have q2 := cell_of hD6.e (j := 0) rfl
    have q3 := cell_of hD6.a (j := 0) rfl
    refine (catch_panicking hD5 (cell_of hR5.head rfl) u pv []).mono ?_
    rintro e u' w'' ⟨rfl, rfl, ew⟩
    rw [← ew] at q0 q1 q2 q3 hb6
    have hfin : DecR w zs (.returned (.tuple #[.agg #[.int .i64 0, .slice none 0 0], .int .i64 6, .int .i64 q])) w'' := .inr ⟨q, hE, rfl, by rw [hN]; exact hb6⟩
    simp [Leaves, settle, results, Tryd.results37, go_sem, q0, q1, q2, q3]
    exact hfin
end Cd
end Go.Proofs.YtapkcjbfflgplaaDoor
