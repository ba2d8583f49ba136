/- Small laws for the round of the statement BitsPlays, and the words to cut it. -/
import Derived.Test.YtoamabmnbldgkaaDoorPlaysOps
import Derived.Test.YtoamabmnbldgkaaDoorSetTold
import Derived.Deep.Cut
import Derived.Deep.CutBlock
import Derived.Deep.CutRange
import Derived.Deep.DeepCutAuto
namespace Go.Proofs.YtoamabmnbldgkaaDoor
open Go.RowKit Go.Lib Fx Bm
set_option linter.unusedVariables false

theorem blk_lt {W : World} {p : Nat} {o : Obj} (h : W.heap[p]? = some o) : p < W.heap.size := by
  rcases Nat.lt_or_ge p W.heap.size with h' | h'
  · exact h'
  · rw [Array.getElem?_eq_none h'] at h; cases h
theorem setM_in {M : Nat → Bool} {n : Nat} {x : Int} (h0 : 0 ≤ x) (h1 : x < (n : Int)) : setM M n x = upd M x.toNat true := by
  unfold setM; rw [if_pos ⟨h0, h1⟩]
theorem setM_out {M : Nat → Bool} {n : Nat} {x : Int} (h : ¬ (0 ≤ x ∧ x < (n : Int))) : setM M n x = M := by
  unfold setM; rw [if_neg h]
theorem hasI_in' {M : Nat → Bool} {x : Int} (h0 : 0 ≤ x) : hasI M x = M x.toNat := by
  unfold hasI; rw [decide_eq_true h0, Bool.true_and]
theorem hasI_rng {U : Nat → Bool} {n : Nat} (hU : ∀ i, n ≤ i → U i = false) {i : Int} (hi : hasI U i = true) : 0 ≤ i ∧ i < (n : Int) := by
  by_cases h : 0 ≤ i ∧ i < (n : Int)
  · exact h
  · rw [hasI_out hU h] at hi; cases hi
theorem cells_news {W : World} {g len : Nat} {zs : List Nat} (hl : zs.length = len) (h : ∀ i, i < len → W.cell? ⟨g, i, none⟩ = some (.int .i64 (zs.getD i 0 : Nat))) : ∀ j u, (cellsOf zs)[j]? = some u → W.cell? ((⟨g, 0, none⟩ : Addr).add j) = some u := fun j u hj => by
  unfold cellsOf at hj
  rw [List.getElem?_map] at hj
  by_cases hlt : j < zs.length
  · rw [List.getElem?_eq_getElem hlt] at hj
    simp at hj
    subst hj
    rw [addr_add0, Nat.zero_add, h j (by omega), List.getD_eq_getElem?_getD, List.getElem?_eq_getElem hlt]
    rfl
  · rw [List.getElem?_eq_none (by omega)] at hj; cases hj
theorem clrM_same {M : Nat → Bool} {x : Int} (h : hasI M x = false) : clrM M x = M := by
  unfold clrM
  by_cases h0 : 0 ≤ x
  · rw [if_pos h0]
    rw [hasI_in' h0] at h
    exact upd_same h
  · rw [if_neg h0]
theorem clrM_in {M : Nat → Bool} {x : Int} (h0 : 0 ≤ x) : clrM M x = upd M x.toNat false := by unfold clrM; rw [if_pos h0]
theorem quiet_one {P : Program} {f : FuncId} {args : Array Value} {w : World} {n : Nat} {v : Value} (h : Calls P f args (w.drewN n) (Ans v (w.drewN n))) :
    Calls P f args (w.drewN n) fun e w'' => e = .returned v ∧ ∃ m, w'' = w.drewN m :=
  h.mono fun _ _ ⟨he, m, hm⟩ => ⟨he, n + m, by rw [hm, World.drewN_drewN]⟩
/-- How things stand in a round: both sets, both lists, the operation at hand. -/
structure Rd (w : World) (lo b c n m p : Nat) (kd x : Int) (hh : Bool) (M N : Nat → Bool) (u v : Value) (wx : World) : Prop where
  s : IsSet wx (b + 1) b n M
  o : IsSet wx (c + 1) c m N
  l : LAt wx lo u (mem M n)
  k : LAt wx lo v (mem N m)
  sz : lo ≤ wx.heap.size
  bc : b + 1 < c ∧ c + 1 < lo ∧ lo ≤ p ∧ w.heap.size ≤ b
  bl : Below w.heap.size w wx
  op : wx.heap[p]? = some (.cells #[.int .i64 kd, .int .i64 x, .bool hh] 29 (0, 0))
namespace Rd
variable {w wx wy : World} {lo b c n m p : Nat} {kd x : Int} {hh : Bool} {M N M' N' : Nat → Bool} {u v u' v' : Value}
theorem below (h : Rd w lo b c n m p kd x hh M N u v wx) (hb : Below wx.heap.size wx wy) : Rd w lo b c n m p kd x hh M N u v wy :=
  ⟨h.s.below hb, h.o.below hb, h.l.below hb, h.k.below hb, Nat.le_trans h.sz hb.size, h.bc, below_then h.bl hb, by rw [hb.block p (blk_lt h.op)]; exact h.op⟩
theorem drewN (h : Rd w lo b c n m p kd x hh M N u v wx) (j : Nat) : Rd w lo b c n m p kd x hh M N u v (wx.drewN j) := h.below (below_drewN (Below.refl _ _) j)
theorem sets (h : Rd w lo b c n m p kd x hh M N u v wx) (hg : wx.grownBy wy (some b)) (hs : IsSet wy (b + 1) b n M') (hl : LAt wx lo u' (mem M' n)) : Rd w lo b c n m p kd x hh M' N u' v wy := by
  have ⟨h1, h2, h3, h4⟩ := h.bc
  refine ⟨hs, h.o.keep hg (fun e => by cases e; omega) (fun e => by cases e; omega), hl.keep hg (fun c hc => by cases hc; omega), h.k.keep hg (fun c hc => by cases hc; omega), Nat.le_trans h.sz hg.size, h.bc, below_turn h.bl hg (by omega), ?_⟩
  rw [hg.block p (blk_lt h.op) (fun e => by cases e; omega)]; exact h.op
theorem seto (h : Rd w lo b c n m p kd x hh M N u v wx) (hg : wx.grownBy wy (some c)) (hs : IsSet wy (c + 1) c m N') (hl : LAt wx lo v' (mem N' m)) : Rd w lo b c n m p kd x hh M N' u v' wy := by
  have ⟨h1, h2, h3, h4⟩ := h.bc
  refine ⟨h.s.keep hg (fun e => by cases e; omega) (fun e => by cases e; omega), hs, h.l.keep hg (fun c hc => by cases hc; omega), hl.keep hg (fun c hc => by cases hc; omega), Nat.le_trans h.sz hg.size, h.bc, below_turn h.bl hg (by omega), ?_⟩
  rw [hg.block p (blk_lt h.op) (fun e => by cases e; omega)]; exact h.op
theorem sets_put {w5 w6 : World} (h : Rd w lo b c n m p kd x hh M N u v wx) (hg : wx.grownBy w5 (some b)) (hs : IsSet w5 (b + 1) b n M') (hb : Below w5.heap.size w5 w6) (hl : LAt w6 lo u' (mem M' n)) : Rd w lo b c n m p kd x hh M' N u' v w6 := by
  have ⟨h1, h2, h3, h4⟩ := h.bc
  refine ⟨hs.below hb, (h.o.keep hg (fun e => by cases e; omega) (fun e => by cases e; omega)).below hb, hl, (h.k.keep hg (fun c hc => by cases hc; omega)).below hb, Nat.le_trans h.sz (Nat.le_trans hg.size hb.size), h.bc, below_then (below_turn h.bl hg (by omega)) hb, ?_⟩
  have e : w5.heap[p]? = some (.cells #[.int .i64 kd, .int .i64 x, .bool hh] 29 (0, 0)) := by rw [hg.block p (blk_lt h.op) (fun e => by cases e; omega)]; exact h.op
  rw [hb.block p (blk_lt e)]; exact e
theorem seto_put {w5 w6 : World} (h : Rd w lo b c n m p kd x hh M N u v wx) (hg : wx.grownBy w5 (some c)) (hs : IsSet w5 (c + 1) c m N') (hb : Below w5.heap.size w5 w6) (hl : LAt w6 lo v' (mem N' m)) : Rd w lo b c n m p kd x hh M N' u v' w6 := by
  have ⟨h1, h2, h3, h4⟩ := h.bc
  refine ⟨(h.s.keep hg (fun e => by cases e; omega) (fun e => by cases e; omega)).below hb, hs.below hb, (h.l.keep hg (fun c hc => by cases hc; omega)).below hb, hl, Nat.le_trans h.sz (Nat.le_trans hg.size hb.size), h.bc, below_then (below_turn h.bl hg (by omega)) hb, ?_⟩
  have e : w5.heap[p]? = some (.cells #[.int .i64 kd, .int .i64 x, .bool hh] 29 (0, 0)) := by rw [hg.block p (blk_lt h.op) (fun e => by cases e; omega)]; exact h.op
  rw [hb.block p (blk_lt e)]; exact e
theorem lk (h : Rd w lo b c n m p kd x hh M N u v wx) {w5 : World} (hg : wx.grownBy w5 (some b)) : LAt w5 lo u (mem M n) := by
  have ⟨h1, h2, h3, h4⟩ := h.bc
  exact h.l.keep hg (fun c hc => by cases hc; omega)
theorem kk (h : Rd w lo b c n m p kd x hh M N u v wx) {w5 : World} (hg : wx.grownBy w5 (some c)) : LAt w5 lo v (mem N m) := by
  have ⟨h1, h2, h3, h4⟩ := h.bc
  exact h.k.keep hg (fun c hc => by cases hc; omega)
theorem opk (h : Rd w lo b c n m p kd x hh M N u v wx) {w5 : World} {r : Nat} (hr : r < lo) (hg : wx.grownBy w5 (some r)) : w5.cell? ⟨p, 0, none⟩ = some (.int .i64 kd) ∧ w5.cell? ⟨p, 1, none⟩ = some (.int .i64 x) ∧ w5.cell? ⟨p, 2, none⟩ = some (.bool hh) ∧ lo ≤ w5.heap.size := by
  have ⟨h1, h2, h3, h4⟩ := h.bc
  have e : w5.heap[p]? = some (.cells #[.int .i64 kd, .int .i64 x, .bool hh] 29 (0, 0)) := by rw [hg.block p (blk_lt h.op) (fun e => by cases e; omega)]; exact h.op
  exact ⟨by unfold World.cell?; rw [e]; rfl, by unfold World.cell?; rw [e]; rfl, by unfold World.cell?; rw [e]; rfl, Nat.le_trans h.sz hg.size⟩
theorem llen (h : Rd w lo b c n m p kd x hh M N u v wx) : ∃ sp cap, u = .slice sp (cnt M n) cap := by
  rcases h.l with ⟨h1, h2⟩ | ⟨g, cap, h1, _⟩
  · exact ⟨none, 0, by rw [h1, ← mem_len, h2]; rfl⟩
  · exact ⟨_, cap, by rw [h1, mem_len]⟩
theorem q0 (h : Rd w lo b c n m p kd x hh M N u v wx) : wx.cell? ⟨p, 0, none⟩ = some (.int .i64 kd) := by unfold World.cell?; rw [h.op]; rfl
theorem q1 (h : Rd w lo b c n m p kd x hh M N u v wx) : wx.cell? ⟨p, 1, none⟩ = some (.int .i64 x) := by unfold World.cell?; rw [h.op]; rfl
theorem q2 (h : Rd w lo b c n m p kd x hh M N u v wx) : wx.cell? ⟨p, 2, none⟩ = some (.bool hh) := by unfold World.cell?; rw [h.op]; rfl
end Rd
end Go.Proofs.YtoamabmnbldgkaaDoor
