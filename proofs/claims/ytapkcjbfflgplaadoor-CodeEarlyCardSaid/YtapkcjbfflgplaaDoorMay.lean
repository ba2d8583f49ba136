/- Which programs may be: code.May and what it asks. -/
import Derived.Test.YtapkcjbfflgplaaDoorTakes
import Derived.Test.YtapkcjbfflgplaaDoorKit
import Derived.LoopTactic
import Derived.LoopN
namespace Go.Proofs.YtapkcjbfflgplaaDoor
open Go.RowKit Go.Lib Fx Ho
set_option linter.unusedVariables false
namespace Cd
variable {w w' W : World} {v fv : Value} {G nf len n : Int}
abbrev Ins := Int × Int × Int × Int
def zi : Ins := (0, 0, 0, 0)
/-- The slice v holds these instructions. -/
def IRow (w : World) (v : Value) (l : List Ins) : Prop := ∃ sp cap, v = .slice sp l.length cap ∧ l.length ≤ 9223372036854775807 ∧ ∀ i, i < l.length → ∃ b off, sp = some ⟨b, off, none⟩ ∧ w.cell? ⟨b, off + i * 4, none⟩ = some (.int .i64 (l.getD i zi).1) ∧ w.cell? ⟨b, off + i * 4 + 1, none⟩ = some (.int .i64 (l.getD i zi).2.1) ∧ w.cell? ⟨b, off + i * 4 + 2, none⟩ = some (.int .i64 (l.getD i zi).2.2.1) ∧ w.cell? ⟨b, off + i * 4 + 3, none⟩ = some (.int .i64 (l.getD i zi).2.2.2)
/-- The slice v holds these functions. -/
def FRow (w : World) (v : Value) (fs : List (List Ins)) : Prop := ∃ sp cap, v = .slice sp fs.length cap ∧ fs.length ≤ 9223372036854775807 ∧ ∀ i, i < fs.length → ∃ b off fv, sp = some ⟨b, off, none⟩ ∧ w.cell? ⟨b, off + i, none⟩ = some fv ∧ IRow w fv (fs.getD i [])
theorem IRow.below {l : List Ins} (h : IRow w v l) (hb : Below w.heap.size w w') : IRow w' v l := by
  obtain ⟨sp, cap, e, h1, h2⟩ := h
  refine ⟨sp, cap, e, h1, fun i hi => ?_⟩
  obtain ⟨b, off, e2, c0, c1, c2, c3⟩ := h2 i hi
  exact ⟨b, off, e2, cell_then hb c0, cell_then hb c1, cell_then hb c2, cell_then hb c3⟩
theorem FRow.below {fs : List (List Ins)} (h : FRow w v fs) (hb : Below w.heap.size w w') : FRow w' v fs := by
  obtain ⟨sp, cap, e, h1, h2⟩ := h
  refine ⟨sp, cap, e, h1, fun i hi => ?_⟩
  obtain ⟨b, off, fv, e2, c0, c1⟩ := h2 i hi
  exact ⟨b, off, fv, e2, cell_then hb c0, c1.below hb⟩
/-- How many numbers there are of each kind. -/
def bnd (G nf len : Int) (k : Int) : Int := if k = 0 then 1 else if k = 1 then 256 else if k = 2 then 16 else if k = 3 then G else if k = 4 then nf else if k = 5 then len else 32
def bv (G nf len : Int) : Value := .agg #[.int .i64 1, .int .i64 256, .int .i64 16, .int .i64 G, .int .i64 nf, .int .i64 len, .int .i64 32]
def hasB (G nf len k n : Int) : Bool := decide (0 ≤ n ∧ n < bnd G nf len k)
set_option maxRecDepth 100000 in
theorem has_any (k n : Int) (k0 : 0 ≤ k) (k7 : k < 7) (w : World) : Calls Tryd.prog 99 #[bv G nf len, .int .i64 k, .int .i64 n] w (AnsB (.bool (hasB G nf len k n)) w) := by
  obtain ⟨q, rfl⟩ : ∃ q : Nat, k = (q : Int) := ⟨k.toNat, by omega⟩
  have hc : (w.alloc (.cells #[.int .i64 1, .int .i64 256, .int .i64 16, .int .i64 G, .int .i64 nf, .int .i64 len, .int .i64 32] 130)).cell? ⟨w.heap.size, q, none⟩ = some (.int .i64 (bnd G nf len q)) := by
    refine cell_of (heap_alloc_new _ _) ?_
    rcases (show q = 0 ∨ q = 1 ∨ q = 2 ∨ q = 3 ∨ q = 4 ∨ q = 5 ∨ q = 6 by omega) with rfl | rfl | rfl | rfl | rfl | rfl | rfl <;> rfl
  have hr : Hid (hasB G nf len q n = decide (0 ≤ n ∧ n < bnd G nf len q)) := Lib.hid rfl
  unfold bv
  generalize bnd G nf len q = m at *
  generalize hasB G nf len q n = r at *
  by_cases h1 : 0 ≤ n
  · have e1 : decide (0 ≤ n) = true := decide_eq_true h1
    by_cases h2 : n < m
    · have e2 : decide (n < m) = true := decide_eq_true h2
      obtain rfl : r = true := by rw [hr.out]; exact decide_eq_true ⟨h1, h2⟩
      go_enter Tryd.func99, Tryd.ntmps99
      go_wp2_with fail
      go_ret
      exact ⟨rfl, below_alloc (Below.refl _ _) _⟩
    · have e2 : decide (n < m) = false := decide_eq_false h2
      obtain rfl : r = false := by rw [hr.out]; exact decide_eq_false (fun h => h2 h.2)
      go_enter Tryd.func99, Tryd.ntmps99
      go_wp2_with fail
      go_ret
      exact ⟨rfl, below_alloc (Below.refl _ _) _⟩
  · have e1 : decide (0 ≤ n) = false := decide_eq_false h1
    obtain rfl : r = false := by rw [hr.out]; exact decide_eq_false (fun h => h1 h.1)
    clear hc
    go_enter Tryd.func99, Tryd.ntmps99
    go_wp2_with fail
    go_ret
    exact ⟨rfl, below_alloc (Below.refl _ _) _⟩
set_option maxRecDepth 100000 in
theorem within_any (G nf len : Int) (w : World) : Calls Tryd.prog 72 #[.int .i64 G, .int .i64 nf, .int .i64 len] w (AnsB (bv G nf len) w) := by
  go_enter Tryd.func72, Tryd.ntmps72
  go_wp2_with fail
  refine bodyPost_ret (results_cell_row (by rfl) _ _ w.heap.size 130 _ (0, 0) _ rfl (heap_alloc_new _ _) Tryd.underlying130 rfl (by kernel_rfl)) rfl ?_
  exact ⟨rfl, below_alloc (Below.refl _ _) _⟩
/-- What may has put aside. -/
structure Box3 (U : World) (N : Nat) (G nf len q a b c k0 k1 k2 : Int) : Prop where
  b0 : U.heap[N]? = some (.cells #[.int .i64 1, .int .i64 256, .int .i64 16, .int .i64 G, .int .i64 nf, .int .i64 len, .int .i64 32] 130 (0, 0))
  b1 : U.heap[N + 1]? = some (.cells #[.int .i64 q, .int .i64 a, .int .i64 b, .int .i64 c] 29 (0, 0))
  b2 : U.heap[N + 2]? = some (.cells #[.int .i64 k0, .int .i64 k1, .int .i64 k2] 148 (0, 0))
theorem Box3.below {U V : World} {N : Nat} {q a b c k0 k1 k2 : Int} (h : Box3 U N G nf len q a b c k0 k1 k2) (hb : Below U.heap.size U V) : Box3 V N G nf len q a b c k0 k1 k2 :=
  ⟨(hb.block _ (block_lt h.b0)).trans h.b0, (hb.block _ (block_lt h.b1)).trans h.b1, (hb.block _ (block_lt h.b2)).trans h.b2⟩
theorem Box3.cells {U : World} {N : Nat} {q a b c k0 k1 k2 : Int} (h : Box3 U N G nf len q a b c k0 k1 k2) : (U.cell? ⟨N, 0, none⟩ = some (.int .i64 1) ∧ U.cell? ⟨N, 1, none⟩ = some (.int .i64 256) ∧ U.cell? ⟨N, 2, none⟩ = some (.int .i64 16) ∧ U.cell? ⟨N, 3, none⟩ = some (.int .i64 G) ∧ U.cell? ⟨N, 4, none⟩ = some (.int .i64 nf) ∧ U.cell? ⟨N, 5, none⟩ = some (.int .i64 len) ∧ U.cell? ⟨N, 6, none⟩ = some (.int .i64 32)) ∧ (U.cell? ⟨N + 1, 0, none⟩ = some (.int .i64 q) ∧ U.cell? ⟨N + 1, 1, none⟩ = some (.int .i64 a) ∧ U.cell? ⟨N + 1, 2, none⟩ = some (.int .i64 b) ∧ U.cell? ⟨N + 1, 3, none⟩ = some (.int .i64 c)) ∧ U.cell? ⟨N + 2, 0, none⟩ = some (.int .i64 k0) ∧ U.cell? ⟨N + 2, 1, none⟩ = some (.int .i64 k1) ∧ U.cell? ⟨N + 2, 2, none⟩ = some (.int .i64 k2) :=
  ⟨⟨cell_of h.b0 rfl, cell_of h.b0 rfl, cell_of h.b0 rfl, cell_of h.b0 rfl, cell_of h.b0 rfl, cell_of h.b0 rfl, cell_of h.b0 rfl⟩, ⟨cell_of h.b1 rfl, cell_of h.b1 rfl, cell_of h.b1 rfl, cell_of h.b1 rfl⟩, cell_of h.b2 rfl, cell_of h.b2 rfl, cell_of h.b2 rfl⟩
theorem box3_new (w : World) (q a b c k0 k1 k2 : Int) : Box3 (((w.alloc (.cells #[.int .i64 1, .int .i64 256, .int .i64 16, .int .i64 G, .int .i64 nf, .int .i64 len, .int .i64 32] 130)).alloc (.cells #[.int .i64 q, .int .i64 a, .int .i64 b, .int .i64 c] 29)).alloc (.cells #[.int .i64 k0, .int .i64 k1, .int .i64 k2] 148)) w.heap.size G nf len q a b c k0 k1 k2 := by
  have s1 : ∀ (u : World) (o : Obj), (u.alloc o).heap.size = u.heap.size + 1 := fun u o => by show (u.heap.push _).size = _; rw [Array.size_push]
  have h0 := heap_alloc_new w (.cells #[.int .i64 1, .int .i64 256, .int .i64 16, .int .i64 G, .int .i64 nf, .int .i64 len, .int .i64 32] 130)
  have h1 := heap_alloc_new (w.alloc (.cells #[.int .i64 1, .int .i64 256, .int .i64 16, .int .i64 G, .int .i64 nf, .int .i64 len, .int .i64 32] 130)) (.cells #[.int .i64 q, .int .i64 a, .int .i64 b, .int .i64 c] 29)
  have h2 := heap_alloc_new ((w.alloc (.cells #[.int .i64 1, .int .i64 256, .int .i64 16, .int .i64 G, .int .i64 nf, .int .i64 len, .int .i64 32] 130)).alloc (.cells #[.int .i64 q, .int .i64 a, .int .i64 b, .int .i64 c] 29)) (.cells #[.int .i64 k0, .int .i64 k1, .int .i64 k2] 148)
  rw [s1] at h1
  rw [s1, s1] at h2
  refine ⟨?_, ?_, h2⟩
  · exact ((below_alloc (below_alloc (Below.refl _ _) _) _).block _ (by rw [s1]; omega)).trans h0
  · exact ((below_alloc (Below.refl _ _) _).block _ (by rw [s1, s1]; omega)).trans h1
/-- May an instruction stand there? -/
def okI (G nf len : Int) (x : Ins) : Bool := decide (0 ≤ x.1 ∧ x.1 < 18) && (hasB G nf len (kd x.1.toNat 0) x.2.1 && (hasB G nf len (kd x.1.toNat 1) x.2.2.1 && hasB G nf len (kd x.1.toNat 2) x.2.2.2))
set_option maxRecDepth 100000 in
theorem may_any (x : Ins) (hT : Tk w) : Calls Tryd.prog 73 #[bv G nf len, .agg #[.int .i64 x.1, .int .i64 x.2.1, .int .i64 x.2.2.1, .int .i64 x.2.2.2]] w (AnsB (.bool (okI G nf len x)) w) := by
  obtain ⟨op, a, b, c⟩ := x
  simp only
  have hr : Hid (okI G nf len (op, a, b, c) = (decide (0 ≤ op ∧ op < 18) && (hasB G nf len (kd op.toNat 0) a && (hasB G nf len (kd op.toNat 1) b && hasB G nf len (kd op.toNat 2) c)))) := Lib.hid rfl
  generalize okI G nf len (op, a, b, c) = r at *
  by_cases h1 : op < 0
  · obtain rfl : r = false := by rw [hr.out, decide_eq_false (fun h => by omega)]; rfl
    have e1 : decide (op < 0) = true := decide_eq_true h1
    unfold bv
    go_enter Tryd.func73, Tryd.ntmps73
    go_wp2_with fail
    go_ret
    exact ⟨rfl, (by repeat (first | assumption | exact Below.refl _ _ | refine below_drewN ?_ _ | refine below_alloc ?_ _ | refine below_then ?_ (by assumption)))⟩
  · have e1 : decide (op < 0) = false := decide_eq_false h1
    by_cases h2 : 18 ≤ op
    · obtain rfl : r = false := by rw [hr.out, decide_eq_false (fun h => by omega)]; rfl
      have e2 : decide (18 ≤ op) = true := decide_eq_true h2
      unfold bv
      go_enter Tryd.func73, Tryd.ntmps73
      go_wp2_with fail
      go_ret
      exact ⟨rfl, (by repeat (first | assumption | exact Below.refl _ _ | refine below_drewN ?_ _ | refine below_alloc ?_ _ | refine below_then ?_ (by assumption)))⟩
    · have e2 : decide (18 ≤ op) = false := decide_eq_false h2
      obtain ⟨q, rfl⟩ : ∃ q : Nat, op = (q : Int) := ⟨op.toNat, by omega⟩
      have q18 : q < 18 := by omega
      have q0 : (0 : Int) ≤ (q : Int) := by omega
      have q1 : (q : Int) < 18 := by omega
      obtain ⟨t0, t1, t2⟩ := hT q q18
      have c0 : Hid (∀ V, Calls Tryd.prog 99 #[bv G nf len, .int .i64 (kd q 0), .int .i64 a] V (AnsB (.bool (hasB G nf len (kd q 0) a)) V)) := Lib.hid fun V => has_any _ _ (kd_le q 0).1 (kd_le q 0).2 V
      have c1 : Hid (∀ V, Calls Tryd.prog 99 #[bv G nf len, .int .i64 (kd q 1), .int .i64 b] V (AnsB (.bool (hasB G nf len (kd q 1) b)) V)) := Lib.hid fun V => has_any _ _ (kd_le q 1).1 (kd_le q 1).2 V
      have c2 : Hid (∀ V, Calls Tryd.prog 99 #[bv G nf len, .int .i64 (kd q 2), .int .i64 c] V (AnsB (.bool (hasB G nf len (kd q 2) c)) V)) := Lib.hid fun V => has_any _ _ (kd_le q 2).1 (kd_le q 2).2 V
      rw [decide_eq_true (show 0 ≤ (q : Int) ∧ (q : Int) < 18 from ⟨q0, q1⟩), Int.toNat_natCast, Bool.true_and] at hr
      generalize hasB G nf len (kd q 0) a = x0 at *
      generalize hasB G nf len (kd q 1) b = x1 at *
      generalize hasB G nf len (kd q 2) c = x2 at *
      generalize kd q 0 = k0 at *
      generalize kd q 1 = k1 at *
      generalize kd q 2 = k2 at *
      unfold bv at *
      have h0 : 0 < w.heap.size := World.block_lt_of_cell? w _ t0
      have hB := box3_new (G := G) (nf := nf) (len := len) w (q : Int) a b c k0 k1 k2
      have hbU : Hid (Below w.heap.size w (((w.alloc (.cells #[.int .i64 1, .int .i64 256, .int .i64 16, .int .i64 G, .int .i64 nf, .int .i64 len, .int .i64 32] 130)).alloc (.cells #[.int .i64 q, .int .i64 a, .int .i64 b, .int .i64 c] 29)).alloc (.cells #[.int .i64 k0, .int .i64 k1, .int .i64 k2] 148))) := Lib.hid (by repeat (first | assumption | exact Below.refl _ _ | refine below_drewN ?_ _ | refine below_alloc ?_ _ | refine below_then ?_ (by assumption)))
      obtain ⟨N, hN⟩ : ∃ N, w.heap.size = N := ⟨_, rfl⟩
      have h00 : 0 < N := by omega
      rw [hN] at hB
      replace hB := Lib.hid hB
      go_enter Tryd.func73, Tryd.ntmps73
      go_wp2_with fail
      obtain ⟨U, hU⟩ : ∃ U, (((w.alloc (.cells #[.int .i64 1, .int .i64 256, .int .i64 16, .int .i64 G, .int .i64 nf, .int .i64 len, .int .i64 32] 130)).alloc (.cells #[.int .i64 q, .int .i64 a, .int .i64 b, .int .i64 c] 29)).alloc (.cells #[.int .i64 k0, .int .i64 k1, .int .i64 k2] 148)) = U := ⟨_, rfl⟩
      rw [hU] at hB hbU
      rw [hU]
      have d0 := c0.out U
      clear hU t0 t1 t2 c0 h0
      with_reducible refine Calls.mono d0 ?_
      rintro e w3 ⟨rfl, hb3⟩
      clear d0
      cases x0
      · obtain rfl : r = false := by rw [hr.out]; rfl
        clear c1 c2 hB
        go_wp2_with fail
        go_ret
        exact ⟨rfl, hbU.out.trans (hb3.mono hbU.out.size)⟩
      · have hb3U := Lib.hid (hbU.out.trans (hb3.mono hbU.out.size))
        replace hB := Lib.hid (hB.out.below hb3)
        obtain ⟨⟨a0, a1, a2, a3, a4, a5, a6⟩, ⟨i0, i1, i2, i3⟩, j0, j1, j2⟩ := hB.out.cells
        have d1 := c1.out w3
        clear hbU hb3 c1
        go_wp2_with fail
        with_reducible refine Calls.mono d1 ?_
        rintro e w4 ⟨rfl, hb4⟩
        clear d1 a0 a1 a2 a3 a4 a5 a6 i0 i1 i2 i3 j0 j1 j2
        have hb4U := Lib.hid (hb3U.out.trans (hb4.mono (by have := hb3U.out.size; omega)))
        cases x1
        · obtain rfl : r = false := by rw [hr.out]; rfl
          clear c2 hB
          go_wp2_with fail
          go_ret
          exact ⟨rfl, hb4U.out⟩
        · replace hB := Lib.hid (hB.out.below hb4)
          obtain ⟨⟨a0, a1, a2, a3, a4, a5, a6⟩, ⟨i0, i1, i2, i3⟩, j0, j1, j2⟩ := hB.out.cells
          have d2 := c2.out w4
          obtain rfl : r = x2 := by rw [hr.out]; simp
          clear hb4 c2
          go_wp2_with fail
          with_reducible refine Calls.mono d2 ?_
          rintro e w5 ⟨rfl, hb5⟩
          clear d2 a0 a1 a2 a3 a4 a5 a6 i0 i1 i2 i3 j0 j1 j2
          have hb5U := hb4U.out.trans (hb5.mono (by have := hb4U.out.size; omega))
          go_wp2_with fail
          go_ret
          exact ⟨rfl, hb5U⟩
end Cd
end Go.Proofs.YtapkcjbfflgplaaDoor
