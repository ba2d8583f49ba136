/- What the law of the best run keeps: where it is, which run is the one that Alloc is to take. -/
import Derived.Test.YtbheabjemaaeoabPageTold
namespace Go.Proofs.Ytbheabjemaaeoab
open Go.RowKit Go.Lib Fx Ho Gr Go.Sort
set_option linter.unusedVariables false
namespace Pg
variable {W0 w w1 w' W : World} {P B b n c i j k q K a N p t s : Nat} {v : Value} {L M : List Rn} {H H' : Home} {F : List Bool} {d : Array Pr2}
theorem cnt_le : ∀ F : List Bool, cnt F ≤ F.length
  | [] => Nat.le_refl _
  | b :: t => by
    have := cnt_le t
    simp only [cnt, List.length_cons]
    split <;> omega
theorem run_new (hl : F.length = n) (hat : 2 ≤ t) (hq : 1 ≤ q) (htq : t + q ≤ n) (hoff : ∀ i, t ≤ i + 1 → F.getD i false = false) : ∀ b m, IsRun n (setR F t true q) b m ↔ (b = t ∧ m = q) ∨ IsRun n F b m := fun b m => by
  have hs : ∀ i, (setR F t true q).getD i false = if t ≤ i ∧ i < t + q then true else F.getD i false := fun i => setR_get F t true i q (by omega)
  have h : IsRun n (setR F t true q) t q := ⟨by omega, hq, htq, fun i h1 h2 => by rw [hs, if_pos ⟨h1, h2⟩], by rw [hs, if_neg (by omega)]; exact hoff _ (by omega), by rw [hs, if_neg (by omega)]; exact hoff _ (by omega)⟩
  rw [run_join hl htq hq (fun i h1 h2 => hoff i (by omega)) h (Nat.le_refl _) (Nat.le_refl _) b m]
  refine or_congr_right ⟨fun h => h.1, fun g => ⟨g, ?_, ?_⟩⟩
  · have h1 := g.in_ (b + m - 1) (by have := g.k1; omega) (by have := g.k1; omega)
    intro e
    rw [hoff _ (by omega)] at h1; cases h1
  · have h1 := g.in_ b (by omega) (by have := g.k1; omega)
    intro e
    rw [hoff _ (by omega)] at h1; cases h1
theorem run_low (hoff : ∀ i, t ≤ i + 1 → F.getD i false = false) (g : IsRun n F a K) : a < t := by
  rcases Nat.lt_or_ge a t with h | h
  · exact h
  · have := g.in_ a (by omega) (by have := g.k1; omega)
    rw [hoff a (by omega)] at this; cases this
/-- Which run is the best so far: none, or the run bf, bm. -/
def Bst (n : Nat) (F : List Bool) (k bf bm : Nat) : Prop := (bf = 0 ∧ bm = 0 ∧ ∀ a K, IsRun n F a K → K < k) ∨ (Best n F k bf bm)
theorem bst_new {bf bm : Nat} (hb : Bst n F k bf bm) (hk : 1 ≤ k) (hl : F.length = n) (hat : 2 ≤ t) (hq : 1 ≤ q) (htq : t + q ≤ n) (hoff : ∀ i, t ≤ i + 1 → F.getD i false = false) (hc : k ≤ q) (hc2 : bm = 0 ∨ q < bm) : Bst n (setR F t true q) k t q := by
  refine .inr ⟨(run_new hl hat hq htq hoff t q).2 (.inl ⟨rfl, rfl⟩), hc, fun b m g hm => ?_⟩
  rcases (run_new hl hat hq htq hoff b m).1 g with ⟨rfl, rfl⟩ | g
  · exact .inr ⟨rfl, Nat.le_refl _⟩
  · rcases hb with ⟨_, _, h⟩ | ⟨h1, h2, h3⟩
    · have := h _ _ g; omega
    · have := h3 b m g hm
      have := h1.k1
      exact .inl (by omega)
theorem bst_old {bf bm : Nat} (hb : Bst n F k bf bm) (hl : F.length = n) (hat : 2 ≤ t) (hq : 1 ≤ q) (htq : t + q ≤ n) (hoff : ∀ i, t ≤ i + 1 → F.getD i false = false) (hc : q < k ∨ (bm ≠ 0 ∧ bm ≤ q)) : Bst n (setR F t true q) k bf bm := by
  rcases hb with ⟨h1, h2, h⟩ | ⟨h1, h2, h3⟩
  · refine .inl ⟨h1, h2, fun a K g => ?_⟩
    rcases (run_new hl hat hq htq hoff a K).1 g with ⟨rfl, rfl⟩ | g
    · omega
    · exact h _ _ g
  · have hlt := run_low hoff h1
    refine .inr ⟨(run_new hl hat hq htq hoff _ _).2 (.inr h1), h2, fun b m g hm => ?_⟩
    rcases (run_new hl hat hq htq hoff b m).1 g with ⟨rfl, rfl⟩ | g
    · have := h1.k1; omega
    · exact h3 b m g hm
theorem off_new (hl : F.length = n) (htq : t + q ≤ n) (hoff : ∀ i, t ≤ i + 1 → F.getD i false = false) : ∀ i, t + q + 1 ≤ i + 1 → (setR F t true q).getD i false = false := fun i hi => by
  rw [setR_get F t true i q (by omega), if_neg (by omega)]; exact hoff i (by omega)
/-- The law between two rounds. -/
structure Pb (W0 W : World) (P B c : Nat) (F : List Bool) (k t bf bm : Nat) : Prop where
  ps : ∃ H, Ps W0 W P 120 c F H ∧ ¬ H B
  blk : W.heap[B]? = some (.cells #[.int .i64 bf, .int .i64 bm] 34 (0, 0))
  lo : W0.heap.size ≤ B
  off : ∀ i, t ≤ i + 1 → F.getD i false = false
  at2 : 2 ≤ t
  best : Bst 120 F k bf bm
variable {bf bm : Nat}
theorem Pb.below (h : Pb W0 W P B c F k t bf bm) (hb : Below W.heap.size W w') : Pb W0 w' P B c F k t bf bm := by
  obtain ⟨H, h1, h2⟩ := h.ps
  exact ⟨⟨H, h1.below hb, h2⟩, (hb.block B (block_lt h.blk)).trans h.blk, h.lo, h.off, h.at2, h.best⟩
theorem Pb.cells (h : Pb W0 W P B c F k t bf bm) : W.cell? ⟨B, 0, none⟩ = some (.int .i64 bf) ∧ W.cell? ⟨B, 1, none⟩ = some (.int .i64 bm) ∧ W.frozen? ⟨B, 0, none⟩ = false ∧ W.frozen? ⟨B, 1, none⟩ = false := ⟨cell_of h.blk rfl, cell_of h.blk rfl, frozen_of_row _ _ _ _ _ h.blk, frozen_of_row _ _ _ _ _ h.blk⟩
/-- Two cells of a block of the law's own are written. -/
theorem two_cell {U : World} {x y : Value} {a : Array Value} {e : TypeId} (hh : w.heap[B]? = some (.cells a e (0, 0))) (hU : U.heap = ((w.setCell ⟨B, 0, none⟩ x).setCell ⟨B, 1, none⟩ y).heap) (h1 : U.os = w.os) (h2 : U.tape = w.tape) (h3 : U.output = w.output) : Wrote (fun k => k = B) w (fun k => k = B) U ∧ U.heap[B]? = some (.cells ((a.setIfInBounds 0 x).setIfInBounds 1 y) e (0, 0)) := by
  have g1 := wr1 w B 0 x
  have g2 := wr1 (w.setCell ⟨B, 0, none⟩ x) B 1 y
  have g3 := g1.trans g2
  refine ⟨⟨h1, h2, h3, by rw [hU]; exact g3.size, fun k hk hn => by rw [hU]; exact g3.block k hk hn, fun k hk => .inl hk⟩, ?_⟩
  rw [hU]
  exact heap_setCell_same _ B 1 _ _ y (heap_setCell_same _ B 0 _ _ x hh)
theorem Pb.put {U : World} (h : Pb W0 W P B c F k t bf bm) (hU : U.heap = ((W.setCell ⟨B, 0, none⟩ (.int .i64 a)).setCell ⟨B, 1, none⟩ (.int .i64 q)).heap) (h1 : U.os = W.os) (h2 : U.tape = W.tape) (h3 : U.output = W.output) {t' : Nat} {F' : List Bool} {k' : Nat} (hF : F' = F) (ho : ∀ i, t' ≤ i + 1 → F.getD i false = false) (ht : 2 ≤ t') (hb : Bst 120 F k' a q) : Pb W0 U P B c F' k' t' a q := by
  obtain ⟨g1, g2⟩ := two_cell h.blk hU h1 h2 h3
  obtain ⟨H, p1, p2⟩ := h.ps
  subst hF
  exact ⟨⟨H, p1.wrote g1 (fun k hk e => p2 (by rw [← show k = B from e]; exact hk)) (fun k e => by rw [show k = B from e]; exact h.lo), p2⟩, g2, h.lo, ho, ht, hb⟩
/-- A run comes back: the one that the law names. -/
theorem Pb.free (h : Pb W0 W P B c F k t bf bm) (hc : c ≤ 900) (hk : 1 ≤ k) (hq : 1 ≤ q) (htq : t + q ≤ 120) : Calls Try.prog 9 #[.pointer (some ⟨P, 0, none⟩), .int .i64 t, .int .i64 q] W fun e w' => e = .returned (.int .i64 0) ∧ w'.cell? ⟨B, 0, none⟩ = some (.int .i64 bf) ∧ w'.cell? ⟨B, 1, none⟩ = some (.int .i64 bm) ∧ w'.frozen? ⟨B, 0, none⟩ = false ∧ w'.frozen? ⟨B, 1, none⟩ = false ∧
    Hid (k ≤ q → (bm = 0 ∨ q < bm) → ∀ U : World, U.heap = ((w'.setCell ⟨B, 0, none⟩ (.int .i64 t)).setCell ⟨B, 1, none⟩ (.int .i64 q)).heap → U.os = w'.os → U.tape = w'.tape → U.output = w'.output → ∃ F, Pb W0 U P B (c + 4) F k (t + q + 1) t q) ∧
    Hid (q < k ∨ (bm ≠ 0 ∧ bm ≤ q) → ∃ F, Pb W0 w' P B (c + 4) F k (t + q + 1) bf bm) := by
  obtain ⟨H, p1, p2⟩ := h.ps
  have hl := p1.len
  have h2 := h.at2
  refine (free_yes p1 (by omega) (by omega) hq (by omega) (fun i i1 i2 => h.off i (by omega))).mono fun e w' ⟨he, H', hw, hp⟩ => ?_
  have hblk : w'.heap[B]? = _ := (hw.block B (block_lt h.blk) p2).trans h.blk
  have hp2 : ¬ H' B := fun hh => (hw.home B hh).elim p2 (fun e => by have := block_lt h.blk; omega)
  have hoff := off_new hl (by omega) h.off (q := q)
  refine ⟨he, cell_of hblk rfl, cell_of hblk rfl, frozen_of_row _ _ _ _ _ hblk, frozen_of_row _ _ _ _ _ hblk, Lib.hid fun c1 c2 U u1 u2 u3 u4 => ?_, Lib.hid fun c1 => ?_⟩
  · obtain ⟨g1, g2⟩ := two_cell hblk u1 u2 u3 u4
    exact ⟨_, ⟨H', hp.wrote g1 (fun k hk e => hp2 (by rw [← show k = B from e]; exact hk)) (fun k e => by rw [show k = B from e]; exact h.lo), hp2⟩, g2, h.lo, hoff, by omega, bst_new h.best hk hl h2 hq (by omega) h.off c1 c2⟩
  · exact ⟨_, ⟨H', hp, hp2⟩, hblk, h.lo, hoff, by omega, bst_old h.best hl h2 hq (by omega) h.off c1⟩
/-- All pages of New's taken. -/
theorem all_off : ∀ i, (setR (newF 120) 1 false 119).getD i false = false := fun i => by
  rw [setR_get _ _ _ _ _ (by rw [newF_len]; omega)]
  split
  · rfl
  · rw [newF_get (by omega), decide_eq_false_iff_not]; omega
theorem pb_start (h : Ps W0 W P 120 c (setR (newF 120) 1 false 119) H) (hk : 1 ≤ k) {U : World} (hU : U.heap = (W.alloc (.cells #[.int .i64 0, .int .i64 0] 34)).heap) (h1 : U.os = W.os) (h2 : U.tape = W.tape) (h3 : U.output = W.output) : Pb W0 U P W.heap.size c (setR (newF 120) 1 false 119) k 2 0 0 := by
  have hb := heap_alloc_new W (.cells #[.int .i64 0, .int .i64 0] 34)
  have hB := below_alloc (Below.refl W.heap.size W) (.cells #[.int .i64 0, .int .i64 0] 34)
  have hB2 : Below W.heap.size W U := ⟨h1.trans hB.os, h2.trans hB.tape, h3.trans hB.output, by rw [hU]; exact hB.size, fun k hk => by rw [hU]; exact hB.block k hk⟩
  have hlo := h.out.size
  have hH : ¬ H W.heap.size := fun hh => by have := h.lt hh; omega
  exact ⟨⟨H, h.below hB2, hH⟩, by rw [hU]; exact hb, hlo, fun i _ => all_off i, Nat.le_refl _, .inl ⟨rfl, rfl, fun a K g => by have := g.in_ a (by omega) (by have := g.k1; omega); rw [all_off] at this; cases this⟩⟩
/-- What Alloc answers behind the rounds. -/
theorem Pb.alloc (h : Pb W0 W P B c F k t bf bm) (hc : c ≤ 900) (hk : 1 ≤ k) : Calls Try.prog 7 #[.pointer (some ⟨P, 0, none⟩), .int .i64 k] W fun e w' =>
    (bm = 0 ∧ bf = 0 ∧ e = .returned (.tuple #[.int .i64 0, .int .i64 3]) ∧ w'.cell? ⟨B, 1, none⟩ = some (.int .i64 0) ∧ Hid (∃ H, Ps W0 w' P 120 c F H)) ∨
    (1 ≤ bm ∧ e = .returned (.tuple #[.int .i64 bf, .int .i64 0]) ∧ w'.cell? ⟨B, 0, none⟩ = some (.int .i64 bf) ∧ w'.cell? ⟨B, 1, none⟩ = some (.int .i64 bm) ∧ Hid (∃ H F', cnt F' + k = cnt F ∧ Ps W0 w' P 120 (c + 4) F' H)) := by
  obtain ⟨H, p1, p2⟩ := h.ps
  rcases h.best with ⟨rfl, rfl, h1⟩ | hb
  · refine (alloc_no p1 (by omega) (by omega) (fun a K g => by have := h1 a K g; omega)).mono fun e w' ⟨he, H', hw, hp⟩ => ?_
    have hblk : w'.heap[B]? = _ := (hw.block B (block_lt h.blk) p2).trans h.blk
    exact .inl ⟨rfl, rfl, he, cell_of hblk rfl, Lib.hid ⟨H', hp⟩⟩
  · refine (alloc_yes p1 (by omega) hk hb).mono fun e w' ⟨he, H', hw, hp⟩ => ?_
    have hblk : w'.heap[B]? = _ := (hw.block B (block_lt h.blk) p2).trans h.blk
    have hle := hb.1.le
    exact .inr ⟨hb.1.k1, he, cell_of hblk rfl, cell_of hblk rfl, Lib.hid ⟨H', _, cnt_take (F := F) (a := bf) k (by rw [p1.len]; have := hb.2.1; omega) (fun i i1 i2 => hb.1.in_ i i1 (by have := hb.2.1; omega)), hp⟩⟩
end Pg
end Go.Proofs.Ytbheabjemaaeoab
