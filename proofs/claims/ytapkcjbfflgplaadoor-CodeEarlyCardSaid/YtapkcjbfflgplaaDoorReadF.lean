/- A script's reader: a function. -/
import Derived.Test.YtapkcjbfflgplaaDoorReadI
import Derived.OwnWalk
import Derived.LoopTactic
import Derived.LoopN
namespace Go.Proofs.YtapkcjbfflgplaaDoor
open Go.RowKit Go.Lib Fx Ho
set_option linter.unusedVariables false
namespace Cd
variable {w w' W : World} {v fv : Value} {G nf len n : Int} {fs : List (List Ins)} {R p q j : Nat} {zs : List Int} {L : List Ins}
def c4 (x : Ins) : List Value := [.int .i64 x.1, .int .i64 x.2.1, .int .i64 x.2.2.1, .int .i64 x.2.2.2]
def ca (L : List Ins) : List Value := L.flatMap c4
theorem ca_cons (x : Ins) (L : List Ins) : ca (x :: L) = .int .i64 x.1 :: .int .i64 x.2.1 :: .int .i64 x.2.2.1 :: .int .i64 x.2.2.2 :: ca L := rfl
theorem ca_len : ∀ L : List Ins, (ca L).length = L.length * 4
  | [] => rfl
  | x :: L => by rw [ca_cons]; simp only [List.length_cons]; rw [ca_len L]; omega
theorem ca_get : ∀ (L : List Ins) (i : Nat), i < L.length → (ca L)[i * 4]? = some (.int .i64 (L.getD i zi).1) ∧ (ca L)[i * 4 + 1]? = some (.int .i64 (L.getD i zi).2.1) ∧ (ca L)[i * 4 + 2]? = some (.int .i64 (L.getD i zi).2.2.1) ∧ (ca L)[i * 4 + 3]? = some (.int .i64 (L.getD i zi).2.2.2)
  | [], i, h => by cases h
  | x :: L, 0, h => ⟨rfl, rfl, rfl, rfl⟩
  | x :: L, i + 1, h => by
    rw [ca_cons, show (i + 1) * 4 = i * 4 + 1 + 1 + 1 + 1 by omega]
    simpa using ca_get L i (by simpa using h)
theorem ca_set : ∀ (L : List Ins) (i : Nat) (x : Ins), ((((ca L).set (i * 4) (.int .i64 x.1)).set (i * 4 + 1) (.int .i64 x.2.1)).set (i * 4 + 2) (.int .i64 x.2.2.1)).set (i * 4 + 3) (.int .i64 x.2.2.2) = ca (L.set i x)
  | [], i, x => by simp [ca]
  | y :: L, 0, x => rfl
  | y :: L, i + 1, x => by
    rw [show (y :: L).set (i + 1) x = y :: L.set i x from rfl, ca_cons, ca_cons, ← ca_set L i x, show (i + 1) * 4 = i * 4 + 1 + 1 + 1 + 1 by omega]
    simp only [List.set_cons_succ, show i * 4 + 1 + 1 + 1 + 1 + 1 = (i * 4 + 1) + 1 + 1 + 1 + 1 by omega, show i * 4 + 1 + 1 + 1 + 1 + 2 = (i * 4 + 2) + 1 + 1 + 1 + 1 by omega, show i * 4 + 1 + 1 + 1 + 1 + 3 = (i * 4 + 3) + 1 + 1 + 1 + 1 by omega]
/-- The block B holds the instructions L. -/
def IBlk (w : World) (B : Nat) (L : List Ins) : Prop := w.heap[B]? = some (.cells (ca L).toArray 29 (0, 0))
theorem IBlk.set {B : Nat} (h : IBlk w B L) (i : Nat) (x : Ins) : IBlk ((((w.setCell ⟨B, i * 4, none⟩ (.int .i64 x.1)).setCell ⟨B, i * 4 + 1, none⟩ (.int .i64 x.2.1)).setCell ⟨B, i * 4 + 2, none⟩ (.int .i64 x.2.2.1)).setCell ⟨B, i * 4 + 3, none⟩ (.int .i64 x.2.2.2)) B (L.set i x) ∧ Wrote (fun k => k = B) w (fun k => k = B) ((((w.setCell ⟨B, i * 4, none⟩ (.int .i64 x.1)).setCell ⟨B, i * 4 + 1, none⟩ (.int .i64 x.2.1)).setCell ⟨B, i * 4 + 2, none⟩ (.int .i64 x.2.2.1)).setCell ⟨B, i * 4 + 3, none⟩ (.int .i64 x.2.2.2)) := by
  have g0 := heap_setCell_same w B (i * 4) _ _ (.int .i64 x.1) h
  have g1 := heap_setCell_same _ B (i * 4 + 1) _ _ (.int .i64 x.2.1) g0
  have g2 := heap_setCell_same _ B (i * 4 + 2) _ _ (.int .i64 x.2.2.1) g1
  have g3 := heap_setCell_same _ B (i * 4 + 3) _ _ (.int .i64 x.2.2.2) g2
  have w1 : ∀ (U : World) (j : Nat) (u : Value), Wrote (fun k => k = B) U (fun k => k = B) (U.setCell ⟨B, j, none⟩ u) := fun U j u => wrote_setCell (a := ⟨B, j, none⟩) rfl rfl rfl rfl rfl
  refine ⟨?_, (((w1 _ _ _).trans (w1 _ _ _)).trans (w1 _ _ _)).trans (w1 _ _ _)⟩
  unfold IBlk
  rw [g3, List.setIfInBounds_toArray, List.setIfInBounds_toArray, List.setIfInBounds_toArray, List.setIfInBounds_toArray, ca_set]
theorem IBlk.cells {B : Nat} (h : IBlk w B L) {i : Nat} (hi : i < L.length) : (w.cell? ⟨B, i * 4, none⟩ = some (.int .i64 (L.getD i zi).1) ∧ w.cell? ⟨B, i * 4 + 1, none⟩ = some (.int .i64 (L.getD i zi).2.1) ∧ w.cell? ⟨B, i * 4 + 2, none⟩ = some (.int .i64 (L.getD i zi).2.2.1) ∧ w.cell? ⟨B, i * 4 + 3, none⟩ = some (.int .i64 (L.getD i zi).2.2.2)) ∧ w.frozen? ⟨B, i * 4, none⟩ = false ∧ w.frozen? ⟨B, i * 4 + 1, none⟩ = false ∧ w.frozen? ⟨B, i * 4 + 2, none⟩ = false ∧ w.frozen? ⟨B, i * 4 + 3, none⟩ = false := by
  obtain ⟨h0, h1, h2, h3⟩ := ca_get L i hi
  have hc : ∀ {j : Nat} {u : Value}, (ca L)[j]? = some u → w.cell? ⟨B, j, none⟩ = some u := fun {j u} hj => cell_of h (by rw [List.getElem?_toArray]; exact hj)
  exact ⟨⟨hc h0, hc h1, hc h2, hc h3⟩, frozen_of_row _ _ _ _ _ h, frozen_of_row _ _ _ _ _ h, frozen_of_row _ _ _ _ _ h, frozen_of_row _ _ _ _ _ h⟩
theorem IBlk.row {B cap : Nat} (h : IBlk w B L) (hl : L.length ≤ 1000000) : IRow w (.slice (some ⟨B, 0, none⟩) L.length cap) L := ⟨_, cap, rfl, by omega, fun i hi => by
  obtain ⟨⟨h0, h1, h2, h3⟩, _⟩ := h.cells hi
  exact ⟨B, 0, rfl, by rw [Nat.zero_add]; exact h0, by rw [Nat.zero_add]; exact h1, by rw [Nat.zero_add]; exact h2, by rw [Nat.zero_add]; exact h3⟩⟩
theorem infoInst : (Tryd.prog.info? 29).map (fun i => (i.zero, i.size, i.bytes)) = some (some (.agg #[.int .i64 0, .int .i64 0, .int .i64 0, .int .i64 0]), 4, 32) := by kernel_rfl
/-- What reading k instructions comes to. -/
def insE (zs : List Int) (p : Nat) (G nf len : Int) : Nat → Except Nat (List Ins)
  | 0 => .ok []
  | k + 1 => (insE zs p G nf len k).bind fun l => (instE zs (p + 4 * k) G nf len).bind fun x => .ok (l ++ [x])
theorem insE_len {G nf len : Int} : ∀ k l, insE zs p G nf len k = .ok l → l.length = k
  | 0, l, h => by cases h; rfl
  | k + 1, l, h => by
    unfold insE at h
    cases e : insE zs p G nf len k with
    | error q => rw [e] at h; cases h
    | ok l' =>
      rw [e] at h
      cases e2 : instE zs (p + 4 * k) G nf len with
      | error q =>
        have h : (instE zs (p + 4 * k) G nf len).bind (fun x => Except.ok (l' ++ [x])) = .ok l := h
        rw [e2] at h; cases h
      | ok x =>
        have h : (instE zs (p + 4 * k) G nf len).bind (fun x => Except.ok (l' ++ [x])) = .ok l := h
        rw [e2] at h
        cases h
        have := insE_len k l' e
        simp; omega
/-- A failure stays. -/
theorem insE_err {G nf len : Int} {q : Nat} : ∀ k m, k ≤ m → insE zs p G nf len k = .error q → insE zs p G nf len m = .error q
  | k, 0, h, e => by
    have hk : k = 0 := by omega
    subst hk
    exact e
  | k, m + 1, h, e => by
    rcases Nat.lt_or_ge k (m + 1) with g | g
    · unfold insE
      rw [insE_err k m (by omega) e]; rfl
    · obtain rfl : k = m + 1 := by omega
      exact e
/-- What reading a function comes to. -/
def fnE (zs : List Int) (p : Nat) (G nf : Int) : Except Nat (List Ins) := (num zs p 1 64).bind fun n => insE zs (p + 1) G nf n n.toNat
def FnR (w : World) (R : Nat) (v : Value) (zs : List Int) (p : Nat) (G nf : Int) (e : Ending) (w' : World) : Prop :=
  (∃ l B, fnE zs p G nf = .ok l ∧ e = .returned (.slice (some ⟨B, 0, none⟩) l.length l.length) ∧ IBlk w' B l ∧ l.length ≤ 64 ∧ w.heap.size ≤ B ∧ Rd w' R v zs (p + 1 + 4 * l.length) ∧ Wrote (fun k => k = R) w (fun k => k = R) w') ∨
  (∃ q, fnE zs p G nf = .error q ∧ Panics e ∧ Rd w' R v zs q ∧ Wrote (fun k => k = R) w (fun k => k = R) w')
theorem made_ins (n : Nat) : (madeCells (Value.agg #[.int .i64 0, .int .i64 0, .int .i64 0, .int .i64 0]).cells (n * 4)).toList = ca (List.replicate n zi) := by
  apply List.ext_getElem?
  intro i
  unfold madeCells
  by_cases h : i < n * 4
  · obtain ⟨k, t, rfl, ht⟩ : ∃ k t, i = k * 4 + t ∧ t < 4 := ⟨i / 4, i % 4, by omega, by omega⟩
    obtain ⟨h0, h1, h2, h3⟩ := ca_get (List.replicate n zi) k (by rw [List.length_replicate]; omega)
    have hz : (List.replicate n zi).getD k zi = zi := by rw [List.getD_eq_getElem?_getD, List.getElem?_replicate]; split <;> rfl
    rw [hz] at h0 h1 h2 h3
    have hm : (k * 4 + t) % 4 = t := by omega
    rcases (show t = 0 ∨ t = 1 ∨ t = 2 ∨ t = 3 by omega) with rfl | rfl | rfl | rfl
    · rw [Nat.add_zero, h0]; simp [Value.cells, show k * 4 < n * 4 by omega, show k * 4 % 4 = 0 by omega, zi]
    · rw [h1]; simp [Value.cells, h, hm, zi]
    · rw [h2]; simp [Value.cells, h, hm, zi]
    · rw [h3]; simp [Value.cells, h, hm, zi]
  · rw [List.getElem?_eq_none (l := ca _) (by rw [ca_len, List.length_replicate]; omega)]
    simp [h]
theorem full_ins {lo cap n N : Nat} {w1 : World} (h : w1.ownsRow lo 29 4 (.slice (some ⟨N, 0, none⟩) n n) n (madeCells (Value.agg #[.int .i64 0, .int .i64 0, .int .i64 0, .int .i64 0]).cells (n * 4)).toList) : IBlk w1 N (List.replicate n zi) := by
  rcases h.2 with ⟨e, _⟩ | ⟨g, cap, cur, e, _, hh, _, _, hs, ht⟩
  · cases e
  · cases e
    rw [made_ins] at ht
    have e1 : cur.toList.take (n * 4) = cur.toList := List.take_of_length_le (by rw [Array.length_toList, hs]; exact Nat.le_refl _)
    rw [e1] at ht
    have e2 : cur = (ca (List.replicate n zi)).toArray := Array.ext' ht
    unfold IBlk
    rw [← e2]; exact hh
end Cd
end Go.Proofs.YtapkcjbfflgplaaDoor
