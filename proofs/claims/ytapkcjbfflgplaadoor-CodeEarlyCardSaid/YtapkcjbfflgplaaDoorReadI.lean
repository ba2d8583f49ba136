/- A script's reader: an instruction. -/
import Derived.Test.YtapkcjbfflgplaaDoorReader
import Derived.Deep.RegionHeld2
import Derived.Deep.RegionHeld3
import Derived.Deep.RegionWith
namespace Go.Proofs.YtapkcjbfflgplaaDoor
open Go.RowKit Go.Lib Fx Ho
set_option linter.unusedVariables false
namespace Cd
variable {w w' W : World} {v fv : Value} {G nf len n : Int} {fs : List (List Ins)} {R p q : Nat} {zs : List Int}
/-- What reading an instruction comes to. -/
def instE (zs : List Int) (p : Nat) (G nf len : Int) : Except Nat Ins :=
  (num zs p 0 17).bind fun op => (num zs (p + 1) 0 (bnd G nf len (kd op.toNat 0) - 1)).bind fun a => (num zs (p + 2) 0 (bnd G nf len (kd op.toNat 1) - 1)).bind fun b => (num zs (p + 3) 0 (bnd G nf len (kd op.toNat 2) - 1)).bind fun c => .ok (op, a, b, c)
def agI (x : Ins) : Value := .agg #[.int .i64 x.1, .int .i64 x.2.1, .int .i64 x.2.2.1, .int .i64 x.2.2.2]
def InR (w : World) (R : Nat) (v : Value) (zs : List Int) (p : Nat) (G nf len : Int) (e : Ending) (w' : World) : Prop :=
  (∃ x, instE zs p G nf len = .ok x ∧ e = .returned (agI x) ∧ Rd w' R v zs (p + 4) ∧ Wrote (fun k => k = R) w (fun k => k = R) w') ∨
  (∃ q, instE zs p G nf len = .error q ∧ Panics e ∧ Rd w' R v zs q ∧ Wrote (fun k => k = R) w (fun k => k = R) w')
theorem num_ok {lo hi z : Int} (h : num zs p lo hi = .ok z) : p < zs.length ∧ lo ≤ z ∧ z ≤ hi := by
  unfold num at h
  split at h
  · rename_i hh
    cases h
    exact hh
  · cases h
theorem num_err {lo hi : Int} {q : Nat} (h : num zs p lo hi = .error q) : q = p := by
  unfold num at h
  split at h
  · cases h
  · cases h; rfl
theorem bnd_in (h1 : -1000000 ≤ G ∧ G ≤ 1000000) (h2 : -1000000 ≤ nf ∧ nf ≤ 1000000) (h3 : -1000000 ≤ len ∧ len ≤ 1000000) (k : Int) : -9223372036854775808 < bnd G nf len k ∧ bnd G nf len k ≤ 9223372036854775807 := by
  unfold bnd
  repeat' split
  all_goals omega
/-- What inst has put aside. -/
structure IB (V : World) (N M : Nat) (G nf len k0 k1 k2 : Int) : Prop where
  b0 : V.heap[N]? = some (.cells #[.int .i64 1, .int .i64 256, .int .i64 16, .int .i64 G, .int .i64 nf, .int .i64 len, .int .i64 32] 130 (0, 0))
  b1 : V.heap[N + 1]? = some (.cells #[.int .i64 0, .int .i64 0, .int .i64 0, .int .i64 0] 29 (0, 0))
  b2 : V.heap[M]? = some (.cells #[.int .i64 k0, .int .i64 k1, .int .i64 k2] 148 (0, 0))
theorem IB.wrote {H H' : Home} {U V : World} {N M : Nat} {k0 k1 k2 : Int} (h : IB U N M G nf len k0 k1 k2) (hw : Wrote H U H' V) (h1 : ¬ H N) (h2 : ¬ H (N + 1)) (h3 : ¬ H M) : IB V N M G nf len k0 k1 k2 :=
  ⟨(hw.block _ (block_lt h.b0) h1).trans h.b0, (hw.block _ (block_lt h.b1) h2).trans h.b1, (hw.block _ (block_lt h.b2) h3).trans h.b2⟩
theorem IB.bnd {V : World} {N M : Nat} {k0 k1 k2 : Int} (h : IB V N M G nf len k0 k1 k2) {q : Nat} (hq : q < 7) : V.cell? ⟨N, q, none⟩ = some (.int .i64 (Cd.bnd G nf len q)) := by
  refine cell_of h.b0 ?_
  rcases (show q = 0 ∨ q = 1 ∨ q = 2 ∨ q = 3 ∨ q = 4 ∨ q = 5 ∨ q = 6 by omega) with rfl | rfl | rfl | rfl | rfl | rfl | rfl <;> rfl
/-- The cells that the region loads. -/
def IS (V : World) (N M : Nat) (k0 k1 k2 : Nat) (b0 b1 b2 : Int) : Prop := V.cell? ⟨M, 0, none⟩ = some (.int .i64 k0) ∧ V.cell? ⟨M, 1, none⟩ = some (.int .i64 k1) ∧ V.cell? ⟨M, 2, none⟩ = some (.int .i64 k2) ∧ V.cell? ⟨N, k0, none⟩ = some (.int .i64 b0) ∧ V.cell? ⟨N, k1, none⟩ = some (.int .i64 b1) ∧ V.cell? ⟨N, k2, none⟩ = some (.int .i64 b2)
theorem IB.is {V : World} {N M k0 k1 k2 : Nat} (h : IB V N M G nf len k0 k1 k2) (h0 : k0 < 7) (h1 : k1 < 7) (h2 : k2 < 7) : IS V N M k0 k1 k2 (Cd.bnd G nf len k0) (Cd.bnd G nf len k1) (Cd.bnd G nf len k2) := ⟨cell_of h.b2 rfl, cell_of h.b2 rfl, cell_of h.b2 rfl, h.bnd h0, h.bnd h1, h.bnd h2⟩
/-- One number more, what inst has put aside as it was. -/
def NR (V : World) (N M : Nat) (G nf len : Int) (k0 k1 k2 : Nat) (R : Nat) (v : Value) (zs : List Int) (p : Nat) (n : Int) (e : Ending) (V' : World) : Prop :=
  (∃ z : Int, num zs p 0 (n - 1) = .ok z ∧ e = .returned (.int .i64 z) ∧ IB V' N M G nf len k0 k1 k2 ∧ Rd V' R v zs (p + 1) ∧ Wrote (fun k => k = R) V (fun k => k = R) V') ∨
  (num zs p 0 (n - 1) = .error p ∧ Panics e ∧ Rd V' R v zs p ∧ Wrote (fun k => k = R) V (fun k => k = R) V')
theorem nr_any {V : World} {N M k0 k1 k2 : Nat} (hI : IB V N M G nf len k0 k1 k2) (hR : Rd V R v zs p) (h1 : N ≠ R) (h2 : N + 1 ≠ R) (h3 : M ≠ R) (hn : -9223372036854775808 < n ∧ n ≤ 9223372036854775807) : Calls Tryd.prog 111 #[.pointer (some ⟨R, 0, none⟩), .int .i64 n] V (NR V N M G nf len k0 k1 k2 R v zs p n) :=
  (below_any hR n hn).mono fun e V' hh => hh.imp (fun ⟨z, g1, g2, g3, g4⟩ => ⟨z, g1, g2, hI.wrote g4 h1 h2 h3, g3, g4⟩) id
theorem four_cell {V : World} {B : Nat} {a b c d x y z t : Value} {e : TypeId} (h : V.heap[B]? = some (.cells #[a, b, c, d] e (0, 0))) : ((((V.setCell ⟨B, 0, none⟩ x).setCell ⟨B, 1, none⟩ y).setCell ⟨B, 2, none⟩ z).setCell ⟨B, 3, none⟩ t).heap[B]? = some (.cells #[x, y, z, t] e (0, 0)) ∧ Wrote (fun k => k = B) V (fun k => k = B) ((((V.setCell ⟨B, 0, none⟩ x).setCell ⟨B, 1, none⟩ y).setCell ⟨B, 2, none⟩ z).setCell ⟨B, 3, none⟩ t) := by
  have g0 := heap_setCell_same V B 0 _ _ x h
  have g1 := heap_setCell_same _ B 1 _ _ y g0
  have g2 := heap_setCell_same _ B 2 _ _ z g1
  have g3 := heap_setCell_same _ B 3 _ _ t g2
  have w1 : ∀ (U : World) (j : Nat) (u : Value), Wrote (fun k => k = B) U (fun k => k = B) (U.setCell ⟨B, j, none⟩ u) := fun U j u => wrote_setCell (a := ⟨B, j, none⟩) rfl rfl rfl rfl rfl
  exact ⟨g3, (((w1 _ _ _).trans (w1 _ _ _)).trans (w1 _ _ _)).trans (w1 _ _ _)⟩
set_option maxRecDepth 100000 in
set_option maxHeartbeats 4000000 in
theorem inst_any (hT : Tk w) (h : Rd w R v zs p) (hR : 0 < R) (h1 : -1000000 ≤ G ∧ G ≤ 1000000) (h2 : -1000000 ≤ nf ∧ nf ≤ 1000000) (h3 : -1000000 ≤ len ∧ len ≤ 1000000) : Calls Tryd.prog 107 #[.pointer (some ⟨R, 0, none⟩), bv G nf len] w (InR w R v zs p G nf len) := by
  have hbU : Hid (Below w.heap.size w ((w.alloc (.cells #[.int .i64 1, .int .i64 256, .int .i64 16, .int .i64 G, .int .i64 nf, .int .i64 len, .int .i64 32] 130)).alloc (.cells #[.int .i64 0, .int .i64 0, .int .i64 0, .int .i64 0] 29))) := Lib.hid (by repeat (first | assumption | exact Below.refl _ _ | refine below_drewN ?_ _ | refine below_alloc ?_ _ | refine below_then ?_ (by assumption)))
  have cn := below_any (h.below hbU.out) 18 (by decide)
  have hbnd := Lib.hid (bnd_in h1 h2 h3)
  have hB : Hid (((w.alloc (.cells #[.int .i64 1, .int .i64 256, .int .i64 16, .int .i64 G, .int .i64 nf, .int .i64 len, .int .i64 32] 130)).alloc (.cells #[.int .i64 0, .int .i64 0, .int .i64 0, .int .i64 0] 29)).heap[w.heap.size]? = some (.cells #[.int .i64 1, .int .i64 256, .int .i64 16, .int .i64 G, .int .i64 nf, .int .i64 len, .int .i64 32] 130 (0, 0)) ∧ ((w.alloc (.cells #[.int .i64 1, .int .i64 256, .int .i64 16, .int .i64 G, .int .i64 nf, .int .i64 len, .int .i64 32] 130)).alloc (.cells #[.int .i64 0, .int .i64 0, .int .i64 0, .int .i64 0] 29)).heap[w.heap.size + 1]? = some (.cells #[.int .i64 0, .int .i64 0, .int .i64 0, .int .i64 0] 29 (0, 0))) := by
    have s1 : ∀ (u : World) (o : Obj), (u.alloc o).heap.size = u.heap.size + 1 := fun u o => by show (u.heap.push _).size = _; rw [Array.size_push]
    have e1 := heap_alloc_new w (.cells #[.int .i64 1, .int .i64 256, .int .i64 16, .int .i64 G, .int .i64 nf, .int .i64 len, .int .i64 32] 130)
    have e2 := heap_alloc_new (w.alloc (.cells #[.int .i64 1, .int .i64 256, .int .i64 16, .int .i64 G, .int .i64 nf, .int .i64 len, .int .i64 32] 130)) (.cells #[.int .i64 0, .int .i64 0, .int .i64 0, .int .i64 0] 29)
    rw [s1] at e2
    exact Lib.hid ⟨((below_alloc (Below.refl _ _) _).block _ (by rw [s1]; omega)).trans e1, e2⟩
  have hRN : R < w.heap.size := block_lt h.head
  have hTU : Hid (Tk ((w.alloc (.cells #[.int .i64 1, .int .i64 256, .int .i64 16, .int .i64 G, .int .i64 nf, .int .i64 len, .int .i64 32] 130)).alloc (.cells #[.int .i64 0, .int .i64 0, .int .i64 0, .int .i64 0] 29))) := Lib.hid (hT.below hbU.out)
  clear hT h
  obtain ⟨N, hN⟩ : ∃ N, w.heap.size = N := ⟨_, rfl⟩
  unfold bv
  go_enter Tryd.func107, Tryd.ntmps107
  go_wp2_with fail
  obtain ⟨U, hU⟩ : ∃ U, ((w.alloc (.cells #[.int .i64 1, .int .i64 256, .int .i64 16, .int .i64 G, .int .i64 nf, .int .i64 len, .int .i64 32] 130)).alloc (.cells #[.int .i64 0, .int .i64 0, .int .i64 0, .int .i64 0] 29)) = U := ⟨_, rfl⟩
  rw [hU] at hbU cn hB hTU ⊢
  clear hU
  rw [hN] at hB
  with_reducible refine Calls.mono cn ?_
  rintro e w3 (⟨op, g1, rfl, g2, g3⟩ | ⟨g1, ⟨x, rfl⟩, g2, g3⟩)
  · have hbw3 := (Wrote.of_below hbU.out).trans g3
    have hU0 := block_lt hB.out.1
    obtain ⟨o0, o1, o2⟩ := num_ok g1
    obtain ⟨q, rfl⟩ : ∃ q : Nat, op = (q : Int) := ⟨op.toNat, by omega⟩
    have q18 : q < 18 := by omega
    have hT3 := hTU.out.wrote g3 (fun e => by have e : 0 = R := e; omega)
    obtain ⟨t0, t1, t2⟩ := hT3 q q18
    obtain ⟨k0, hk0⟩ : ∃ k : Nat, kd q 0 = (k : Int) := ⟨(kd q 0).toNat, by have := (kd_le q 0).1; omega⟩
    obtain ⟨k1, hk1⟩ : ∃ k : Nat, kd q 1 = (k : Int) := ⟨(kd q 1).toNat, by have := (kd_le q 1).1; omega⟩
    obtain ⟨k2, hk2⟩ : ∃ k : Nat, kd q 2 = (k : Int) := ⟨(kd q 2).toNat, by have := (kd_le q 2).1; omega⟩
    have k07 : k0 < 7 := by have := (kd_le q 0).2; omega
    have k17 : k1 < 7 := by have := (kd_le q 1).2; omega
    have k27 : k2 < 7 := by have := (kd_le q 2).2; omega
    have hspec : instE zs p G nf len = (num zs (p + 1) 0 (bnd G nf len k0 - 1)).bind fun a => (num zs (p + 2) 0 (bnd G nf len k1 - 1)).bind fun b => (num zs (p + 3) 0 (bnd G nf len k2 - 1)).bind fun c => .ok ((q : Int), a, b, c) := by
      unfold instE
      rw [show (17 : Int) = 18 - 1 from rfl, g1]
      show (num zs (p + 1) 0 (bnd G nf len (kd (q : Int).toNat 0) - 1)).bind _ = _
      rw [Int.toNat_natCast, hk0, hk1, hk2]
    rw [hk0] at t0
    rw [hk1] at t1
    rw [hk2] at t2
    have hM := heap_alloc_new w3 (.cells #[.int .i64 (k0 : Int), .int .i64 (k1 : Int), .int .i64 (k2 : Int)] 148)
    have hb34 := below_alloc (Below.refl w3.heap.size w3) (.cells #[.int .i64 (k0 : Int), .int .i64 (k1 : Int), .int .i64 (k2 : Int)] 148)
    have hN1 : N + 1 < U.heap.size := block_lt hB.out.2
    have h3s := g3.size
    have hIB : Hid (IB (w3.alloc (.cells #[.int .i64 (k0 : Int), .int .i64 (k1 : Int), .int .i64 (k2 : Int)] 148)) N w3.heap.size G nf len k0 k1 k2) := Lib.hid ⟨(hb34.block N (by omega)).trans ((g3.block N (by omega) (fun e => by have e : N = R := e; omega)).trans hB.out.1), (hb34.block (N + 1) (by omega)).trans ((g3.block (N + 1) (by omega) (fun e => by have e : N + 1 = R := e; omega)).trans hB.out.2), hM⟩
    have hRd : Hid (Rd (w3.alloc (.cells #[.int .i64 (k0 : Int), .int .i64 (k1 : Int), .int .i64 (k2 : Int)] 148)) R v zs (p + 1)) := Lib.hid (g2.below hb34)
    have hW4 : Hid (Wrote (fun k => k = R) w (fun k => k = R) (w3.alloc (.cells #[.int .i64 (k0 : Int), .int .i64 (k1 : Int), .int .i64 (k2 : Int)] 148))) := Lib.hid (hbw3.trans (Wrote.of_below hb34))
    have hMN : N + 1 < w3.heap.size := by omega
    clear cn hbw3 g1 g2 g3 hT3 hM hb34 hB hTU hbU hU0 hN1 h3s
    obtain ⟨M, hM⟩ : ∃ M, w3.heap.size = M := ⟨_, rfl⟩
    rw [hM] at hIB hMN
    have i0 : (0 : Int) ≤ (q : Int) := by omega
    have i1 : (q : Int) < 18 := by omega
    go_wp2_with fail
    obtain ⟨w4, hw4⟩ : ∃ w4, w3.alloc (.cells #[.int .i64 (k0 : Int), .int .i64 (k1 : Int), .int .i64 (k2 : Int)] 148) = w4 := ⟨_, rfl⟩
    rw [hw4] at hIB hRd hW4 ⊢
    clear hw4 hM t0 t1 t2 hk0 hk1 hk2
    have hbd : Below w4.heap.size w4 w4.drew := (Below.refl _ _).drew
    have hNR : N ≠ R ∧ N + 1 ≠ R ∧ M ≠ R := ⟨by omega, by omega, by omega⟩
    have f0 : (k0 : Int) < 7 := by omega
    have f1 : (k1 : Int) < 7 := by omega
    have f2 : (k2 : Int) < 7 := by omega
    have c1 : Hid (∀ V, Below w4.heap.size w4 V → Calls Tryd.prog 111 #[.pointer (some ⟨R, 0, none⟩), .int .i64 (bnd G nf len k0)] V (NR V N M G nf len k0 k1 k2 R v zs (p + 1) (bnd G nf len k0))) := Lib.hid fun V hV => nr_any (hIB.out.wrote (H := fun _ => False) (Wrote.of_below hV) (fun h => h) (fun h => h) (fun h => h)) (hRd.out.below hV) hNR.1 hNR.2.1 hNR.2.2 (hbnd.out _)
    have hS := hIB.out.is k07 k17 k27
    obtain ⟨b0, hb0⟩ : ∃ b0, bnd G nf len k0 = b0 := ⟨_, rfl⟩
    obtain ⟨b1, hb1⟩ : ∃ b1, bnd G nf len k1 = b1 := ⟨_, rfl⟩
    obtain ⟨b2, hb2⟩ : ∃ b2, bnd G nf len k2 = b2 := ⟨_, rfl⟩
    have c2 : Hid (∀ V, IB V N M G nf len k0 k1 k2 → Rd V R v zs (p + 2) → Calls Tryd.prog 111 #[.pointer (some ⟨R, 0, none⟩), .int .i64 b1] V (NR V N M G nf len k0 k1 k2 R v zs (p + 2) b1)) := Lib.hid fun V h1 h2 => hb1 ▸ nr_any h1 h2 hNR.1 hNR.2.1 hNR.2.2 (hbnd.out _)
    have c3 : Hid (∀ V, IB V N M G nf len k0 k1 k2 → Rd V R v zs (p + 3) → Calls Tryd.prog 111 #[.pointer (some ⟨R, 0, none⟩), .int .i64 b2] V (NR V N M G nf len k0 k1 k2 R v zs (p + 3) b2)) := Lib.hid fun V h1 h2 => hb2 ▸ nr_any h1 h2 hNR.1 hNR.2.1 hNR.2.2 (hbnd.out _)
    rw [hb0] at c1
    rw [hb0, hb1, hb2] at hS hspec
    replace hb0 := Lib.hid hb0
    replace hb1 := Lib.hid hb1
    replace hb2 := Lib.hid hb2
    replace hspec := Lib.hid hspec
    refine wp_region_held_drew (S := fun V => V.cell? ⟨M, 0, none⟩ = some (.int .i64 k0) ∧ V.cell? ⟨M, 1, none⟩ = some (.int .i64 k1) ∧ V.cell? ⟨M, 2, none⟩ = some (.int .i64 k2) ∧ V.cell? ⟨N, k0, none⟩ = some (.int .i64 b0) ∧ V.cell? ⟨N, k1, none⟩ = some (.int .i64 b1) ∧ V.cell? ⟨N, k2, none⟩ = some (.int .i64 b2)) (by kernel_rfl) (by exact hS) (fun hHeld => ?_)
    try (refine wpAnyH_take (i := 0) rfl (by kernel_rfl) (by decide +kernel) (by decide +kernel) (fun _ _ _ h => h) (Or.inl ⟨by kernel_rfl, by (intro w hSw; (try dsimp only at hSw); go_simp; try with_reducible rfl)⟩) (by assumption) ?_; try simp only [Act.put, List.getElem_toArray, List.getElem_cons_zero, List.setIfInBounds_toArray, List.set_cons_zero, List.set_cons_succ])
    try (refine wpAnyH_take (i := 1) rfl (by kernel_rfl) (by decide +kernel) (by decide +kernel) (fun _ _ _ h => h) (Or.inl ⟨by kernel_rfl, by (intro w hSw; (try dsimp only at hSw); go_simp; try with_reducible rfl)⟩) (by assumption) ?_; try simp only [Act.put, List.getElem_toArray, List.getElem_cons_succ, List.getElem_cons_zero, List.setIfInBounds_toArray, List.set_cons_zero, List.set_cons_succ])
    try (refine wpAnyH_take (i := 2) rfl (by kernel_rfl) (by decide +kernel) (by decide +kernel) (fun _ _ _ h => h) (Or.inl ⟨by kernel_rfl, by (intro w hSw; (try dsimp only at hSw); go_simp; try with_reducible rfl)⟩) (by assumption) ?_; try simp only [Act.put, List.getElem_toArray, List.getElem_cons_succ, List.getElem_cons_zero, List.setIfInBounds_toArray, List.set_cons_zero, List.set_cons_succ])
    try (refine wpAnyH_take (i := 3) rfl (by kernel_rfl) (by decide +kernel) (by decide +kernel) (fun _ _ _ h => h) (Or.inl ⟨by kernel_rfl, by (intro w hSw; (try dsimp only at hSw); go_simp; try with_reducible rfl)⟩) (by assumption) ?_; try simp only [Act.put, List.getElem_toArray, List.getElem_cons_succ, List.getElem_cons_zero, List.setIfInBounds_toArray, List.set_cons_zero, List.set_cons_succ])
    try (refine wpAnyH_take (i := 4) rfl (by kernel_rfl) (by decide +kernel) (by decide +kernel) (fun _ _ _ h => h) (Or.inl ⟨by kernel_rfl, by (intro w hSw; (try dsimp only at hSw); go_simp; try with_reducible rfl)⟩) (by assumption) ?_; try simp only [Act.put, List.getElem_toArray, List.getElem_cons_succ, List.getElem_cons_zero, List.setIfInBounds_toArray, List.set_cons_zero, List.set_cons_succ])
    try (refine wpAnyH_take (i := 5) rfl (by kernel_rfl) (by decide +kernel) (by decide +kernel) (fun _ _ _ h => h) (Or.inl ⟨by kernel_rfl, by (intro w hSw; (try dsimp only at hSw); go_simp; try with_reducible rfl)⟩) (by assumption) ?_; try simp only [Act.put, List.getElem_toArray, List.getElem_cons_succ, List.getElem_cons_zero, List.setIfInBounds_toArray, List.set_cons_zero, List.set_cons_succ])
    try (refine wpAnyH_take (i := 7) rfl (by kernel_rfl) (by decide +kernel) (by decide +kernel) (fun _ _ _ h => h) (Or.inl ⟨by kernel_rfl, by (intro w hSw; (try dsimp only at hSw); go_simp; try with_reducible rfl)⟩) (by assumption) ?_; try simp only [Act.put, List.getElem_toArray, List.getElem_cons_succ, List.getElem_cons_zero, List.setIfInBounds_toArray, List.set_cons_zero, List.set_cons_succ])
    try (refine wpAnyH_take (i := 8) rfl (by kernel_rfl) (by decide +kernel) (by decide +kernel) (fun _ _ _ h => h) (Or.inl ⟨by kernel_rfl, by (intro w hSw; (try dsimp only at hSw); go_simp; try with_reducible rfl)⟩) (by assumption) ?_; try simp only [Act.put, List.getElem_toArray, List.getElem_cons_succ, List.getElem_cons_zero, List.setIfInBounds_toArray, List.set_cons_zero, List.set_cons_succ])
    try (refine wpAnyH_take (i := 9) rfl (by kernel_rfl) (by decide +kernel) (by decide +kernel) (fun _ _ _ h => h) (Or.inl ⟨by kernel_rfl, by (intro w hSw; (try dsimp only at hSw); go_simp; try with_reducible rfl)⟩) (by assumption) ?_; try simp only [Act.put, List.getElem_toArray, List.getElem_cons_succ, List.getElem_cons_zero, List.setIfInBounds_toArray, List.set_cons_zero, List.set_cons_succ])
    try (refine wpAnyH_take (i := 10) rfl (by kernel_rfl) (by decide +kernel) (by decide +kernel) (fun _ _ _ h => h) (Or.inl ⟨by kernel_rfl, by (intro w hSw; (try dsimp only at hSw); go_simp; try with_reducible rfl)⟩) (by assumption) ?_; try simp only [Act.put, List.getElem_toArray, List.getElem_cons_succ, List.getElem_cons_zero, List.setIfInBounds_toArray, List.set_cons_zero, List.set_cons_succ])
    try (refine wpAnyH_take (i := 11) rfl (by kernel_rfl) (by decide +kernel) (by decide +kernel) (fun _ _ _ h => h) (Or.inl ⟨by kernel_rfl, by (intro w hSw; (try dsimp only at hSw); go_simp; try with_reducible rfl)⟩) (by assumption) ?_; try simp only [Act.put, List.getElem_toArray, List.getElem_cons_succ, List.getElem_cons_zero, List.setIfInBounds_toArray, List.set_cons_zero, List.set_cons_succ])
    try (refine wpAnyH_take (i := 13) rfl (by kernel_rfl) (by decide +kernel) (by decide +kernel) (fun _ _ _ h => h) (Or.inl ⟨by kernel_rfl, by (intro w hSw; (try dsimp only at hSw); go_simp; try with_reducible rfl)⟩) (by assumption) ?_; try simp only [Act.put, List.getElem_toArray, List.getElem_cons_succ, List.getElem_cons_zero, List.setIfInBounds_toArray, List.set_cons_zero, List.set_cons_succ])
    try (refine wpAnyH_take (i := 14) rfl (by kernel_rfl) (by decide +kernel) (by decide +kernel) (fun _ _ _ h => h) (Or.inl ⟨by kernel_rfl, by (intro w hSw; (try dsimp only at hSw); go_simp; try with_reducible rfl)⟩) (by assumption) ?_; try simp only [Act.put, List.getElem_toArray, List.getElem_cons_succ, List.getElem_cons_zero, List.setIfInBounds_toArray, List.set_cons_zero, List.set_cons_succ])
    try (refine wpAnyH_take (i := 15) rfl (by kernel_rfl) (by decide +kernel) (by decide +kernel) (fun _ _ _ h => h) (Or.inl ⟨by kernel_rfl, by (intro w hSw; (try dsimp only at hSw); go_simp; try with_reducible rfl)⟩) (by assumption) ?_; try simp only [Act.put, List.getElem_toArray, List.getElem_cons_succ, List.getElem_cons_zero, List.setIfInBounds_toArray, List.set_cons_zero, List.set_cons_succ])
    try (refine wpAnyH_take (i := 16) rfl (by kernel_rfl) (by decide +kernel) (by decide +kernel) (fun _ _ _ h => h) (Or.inl ⟨by kernel_rfl, by (intro w hSw; (try dsimp only at hSw); go_simp; try with_reducible rfl)⟩) (by assumption) ?_; try simp only [Act.put, List.getElem_toArray, List.getElem_cons_succ, List.getElem_cons_zero, List.setIfInBounds_toArray, List.set_cons_zero, List.set_cons_succ])
    try (refine wpAnyH_take (i := 17) rfl (by kernel_rfl) (by decide +kernel) (by decide +kernel) (fun _ _ _ h => h) (Or.inl ⟨by kernel_rfl, by (intro w hSw; (try dsimp only at hSw); go_simp; try with_reducible rfl)⟩) (by assumption) ?_; try simp only [Act.put, List.getElem_toArray, List.getElem_cons_succ, List.getElem_cons_zero, List.setIfInBounds_toArray, List.set_cons_zero, List.set_cons_succ])
    refine wpAnyH_ready (rs := [6]) (by decide +kernel) (by simp) ?_
    refine AllReadyH.cons rfl (fun K hK => ?_) AllReadyH.nil
    go_simp
    go_at_call 111
    with_reducible refine (c1.out _ hbd).mono ?_
    rintro e W1 (⟨a, ga, rfl, hIa, hRa, hwa⟩ | ⟨ga, ⟨x, rfl⟩, hRa, hwa⟩)
    · try go_simp
      refine hK.out _ _ (by exact (by have := hIa.is k07 k17 k27; rw [hb0.out, hb1.out, hb2.out] at this; exact this)) (fun hHeld => ?_)
      clear hK K
      try simp only [Act.put, List.getElem_toArray, List.getElem_cons_succ, List.getElem_cons_zero, List.setIfInBounds_toArray, List.set_cons_zero, List.set_cons_succ]
      refine wpAnyH_ready (rs := [12]) (by decide +kernel) (by simp) ?_
      refine AllReadyH.cons rfl (fun K hK => ?_) AllReadyH.nil
      go_simp
      go_at_call 111
      with_reducible refine (c2.out _ hIa hRa).mono ?_
      rintro e W2 (⟨b, gb, rfl, hIb, hRb, hwb⟩ | ⟨gb, ⟨x, rfl⟩, hRb, hwb⟩)
      · try go_simp
        refine hK.out _ _ (by exact (by have := hIb.is k07 k17 k27; rw [hb0.out, hb1.out, hb2.out] at this; exact this)) (fun hHeld => ?_)
        clear hK K
        try simp only [Act.put, List.getElem_toArray, List.getElem_cons_succ, List.getElem_cons_zero, List.setIfInBounds_toArray, List.set_cons_zero, List.set_cons_succ]
        refine wpAnyH_ready (rs := [18]) (by decide +kernel) (by simp) ?_
        refine AllReadyH.cons rfl (fun K hK => ?_) AllReadyH.nil
        go_simp
        go_at_call 111
        with_reducible refine (c3.out _ hIb hRb).mono ?_
        rintro e W3 (⟨c, gc, rfl, hIc, hRc, hwc⟩ | ⟨gc, ⟨x, rfl⟩, hRc, hwc⟩)
        · try go_simp
          refine hK.out _ _ (by exact (by have := hIc.is k07 k17 k27; rw [hb0.out, hb1.out, hb2.out] at this; exact this)) (fun hHeld => ?_)
          clear hK K
          try simp only [Act.put, List.getElem_toArray, List.getElem_cons_succ, List.getElem_cons_zero, List.setIfInBounds_toArray, List.set_cons_zero, List.set_cons_succ]
          try (refine wpAnyH_take (i := 19) rfl (by kernel_rfl) (by decide +kernel) (by decide +kernel) (fun _ _ _ h => h) (Or.inl ⟨by kernel_rfl, by (intro w hSw; (try dsimp only at hSw); go_simp; try with_reducible rfl)⟩) (by assumption) ?_; try simp only [Act.put, List.getElem_toArray, List.getElem_cons_succ, List.getElem_cons_zero, List.setIfInBounds_toArray, List.set_cons_zero, List.set_cons_succ])
          have z0 := cell_of hIc.b1 (j := 0) rfl
          have z1 := cell_of hIc.b1 (j := 1) rfl
          have z2 := cell_of hIc.b1 (j := 2) rfl
          have z3 := cell_of hIc.b1 (j := 3) rfl
          have y0 := frozen_of_row _ _ 0 _ _ hIc.b1
          have y1 := frozen_of_row _ _ 1 _ _ hIc.b1
          have y2 := frozen_of_row _ _ 2 _ _ hIc.b1
          have y3 := frozen_of_row _ _ 3 _ _ hIc.b1
          obtain ⟨r1, r2⟩ := four_cell (x := .int .i64 q) (y := .int .i64 a) (z := .int .i64 b) (t := .int .i64 c) hIc.b1
          have hSe : Hid (((((W3.setCell ⟨N + 1, 0, none⟩ (.int .i64 q)).setCell ⟨N + 1, 1, none⟩ (.int .i64 a)).setCell ⟨N + 1, 2, none⟩ (.int .i64 b)).setCell ⟨N + 1, 3, none⟩ (.int .i64 c)).cell? ⟨M, 0, none⟩ = some (.int .i64 k0) ∧ ((((W3.setCell ⟨N + 1, 0, none⟩ (.int .i64 q)).setCell ⟨N + 1, 1, none⟩ (.int .i64 a)).setCell ⟨N + 1, 2, none⟩ (.int .i64 b)).setCell ⟨N + 1, 3, none⟩ (.int .i64 c)).cell? ⟨M, 1, none⟩ = some (.int .i64 k1) ∧ ((((W3.setCell ⟨N + 1, 0, none⟩ (.int .i64 q)).setCell ⟨N + 1, 1, none⟩ (.int .i64 a)).setCell ⟨N + 1, 2, none⟩ (.int .i64 b)).setCell ⟨N + 1, 3, none⟩ (.int .i64 c)).cell? ⟨M, 2, none⟩ = some (.int .i64 k2) ∧ ((((W3.setCell ⟨N + 1, 0, none⟩ (.int .i64 q)).setCell ⟨N + 1, 1, none⟩ (.int .i64 a)).setCell ⟨N + 1, 2, none⟩ (.int .i64 b)).setCell ⟨N + 1, 3, none⟩ (.int .i64 c)).cell? ⟨N, k0, none⟩ = some (.int .i64 b0) ∧ ((((W3.setCell ⟨N + 1, 0, none⟩ (.int .i64 q)).setCell ⟨N + 1, 1, none⟩ (.int .i64 a)).setCell ⟨N + 1, 2, none⟩ (.int .i64 b)).setCell ⟨N + 1, 3, none⟩ (.int .i64 c)).cell? ⟨N, k1, none⟩ = some (.int .i64 b1) ∧ ((((W3.setCell ⟨N + 1, 0, none⟩ (.int .i64 q)).setCell ⟨N + 1, 1, none⟩ (.int .i64 a)).setCell ⟨N + 1, 2, none⟩ (.int .i64 b)).setCell ⟨N + 1, 3, none⟩ (.int .i64 c)).cell? ⟨N, k2, none⟩ = some (.int .i64 b2)) := Lib.hid (by
            have h1 : IS W3 N M k0 k1 k2 b0 b1 b2 := by have := hIc.is k07 k17 k27; rw [hb0.out, hb1.out, hb2.out] at this; exact this
            obtain ⟨a0, a1, a2, a3, a4, a5⟩ := h1
            exact ⟨r2.cell a0 (by show ¬ M = N + 1; omega), r2.cell a1 (by show ¬ M = N + 1; omega), r2.cell a2 (by show ¬ M = N + 1; omega), r2.cell a3 (by show ¬ N = N + 1; omega), r2.cell a4 (by show ¬ N = N + 1; omega), r2.cell a5 (by show ¬ N = N + 1; omega)⟩)
          have hfin : Hid (InR w R v zs p G nf len (.returned (.agg #[.int .i64 q, .int .i64 a, .int .i64 b, .int .i64 c])) ((((W3.setCell ⟨N + 1, 0, none⟩ (.int .i64 q)).setCell ⟨N + 1, 1, none⟩ (.int .i64 a)).setCell ⟨N + 1, 2, none⟩ (.int .i64 b)).setCell ⟨N + 1, 3, none⟩ (.int .i64 c))) := Lib.hid (.inl ⟨((q : Int), a, b, c), by rw [hspec.out, ga]; show (num zs (p + 2) 0 (b1 - 1)).bind _ = _; rw [gb]; show (num zs (p + 3) 0 (b2 - 1)).bind _ = _; rw [gc]; rfl, rfl, hRc.wrote r2 (by show ¬ R = N + 1; omega) (fun k e => by have e : k = N + 1 := e; omega), wrote_new (hW4.out.trans ((((Wrote.of_below hbd).trans hwa).trans hwb).trans hwc)) r2 (by omega)⟩)
          refine wpAnyH_ready (rs := [20]) (by decide +kernel) (by simp) ?_
          refine AllReadyH.cons rfl (fun K hK => ?_) AllReadyH.nil
          go_simp
          clear r2 z0 z1 z2 z3 y0 y1 y2 y3
          refine hK.out _ _ hSe.out (fun hHeld => ?_)
          clear hK K hHeld hSe
          refine wpAnyH_done (by kernel_rfl) ?_ _
          go_wp2_with fail
          refine bodyPost_ret (results_cell_row (by rfl) _ _ (N + 1) 29 _ (0, 0) _ rfl r1 Tryd.underlying29 rfl (by kernel_rfl)) rfl ?_
          exact hfin.out
        · exact ⟨rfl, .inr ⟨p + 3, by rw [hspec.out, ga]; show (num zs (p + 2) 0 (b1 - 1)).bind _ = _; rw [gb]; show (num zs (p + 3) 0 (b2 - 1)).bind _ = _; rw [gc]; rfl, ⟨x, rfl⟩, hRc, hW4.out.trans ((((Wrote.of_below hbd).trans hwa).trans hwb).trans hwc)⟩⟩
      · exact ⟨rfl, .inr ⟨p + 2, by rw [hspec.out, ga]; show (num zs (p + 2) 0 (b1 - 1)).bind _ = _; rw [gb]; rfl, ⟨x, rfl⟩, hRb, hW4.out.trans (((Wrote.of_below hbd).trans hwa).trans hwb)⟩⟩
    · exact ⟨rfl, .inr ⟨p + 1, by rw [hspec.out, ga]; rfl, ⟨x, rfl⟩, hRa, hW4.out.trans ((Wrote.of_below hbd).trans hwa)⟩⟩
  · clear cn
    refine ⟨?_, .inr ⟨p, ?_, ⟨x, rfl⟩, g2, ?_⟩⟩
    · rfl
    · unfold instE; rw [show (18 : Int) - 1 = 17 from rfl] at g1; rw [g1]; rfl
    · exact (Wrote.of_below hbU.out).trans g3
end Cd
end Go.Proofs.YtapkcjbfflgplaaDoor
