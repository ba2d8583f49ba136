/- A slice that holds a rising list of a set's members: what the document's own Put and Out make of it. -/
import Derived.Test.YtoamabmnbldgkaaDoorPlaysOut
import Derived.Test.YtoamabmnbldgkaaDoorPlaysA
namespace Go.Proofs.YtoamabmnbldgkaaDoor
open Go.RowKit Go.Lib Fx Bm
set_option linter.unusedVariables false

/-- The slice v holds the numbers zs from its block's first cell on, in a block from lo on; or is nil. -/
def LAt (W : World) (lo : Nat) (v : Value) (zs : List Nat) : Prop :=
  (v = .slice none 0 0 ∧ zs = []) ∨ ∃ g cap, v = .slice (some ⟨g, 0, none⟩) zs.length cap ∧ zs.length ≤ cap ∧ lo ≤ g ∧ g < W.heap.size ∧ ∀ i, i < zs.length → W.cell? ⟨g, i, none⟩ = some (.int .i64 (zs.getD i 0 : Nat))
theorem LAt.ints {W : World} {lo : Nat} {v : Value} {zs : List Nat} (h : LAt W lo v zs) (hl : zs.length ≤ 1000) : IntsAt W lo v (zs.map fun (k : Nat) => (k : Int)) := by
  rcases h with ⟨rfl, rfl⟩ | ⟨g, cap, rfl, hc, hlo, hg, hcell⟩
  · exact ⟨none, 0, rfl, by simp, fun i hi => by simp at hi⟩
  · refine ⟨some ⟨g, 0, none⟩, cap, by rw [List.length_map], by rw [List.length_map]; omega, fun i hi => ?_⟩
    rw [List.length_map] at hi
    refine ⟨g, 0, rfl, hlo, hg, ?_⟩
    rw [Nat.zero_add, hcell i hi, List.getD_eq_getElem?_getD, List.getD_eq_getElem?_getD, List.getElem?_map, List.getElem?_eq_getElem hi]; rfl
theorem LAt.keep {W W' : World} {lo : Nat} {v : Value} {zs : List Nat} {row : Option Nat} (h : LAt W lo v zs) (hg : W.grownBy W' row) (hr : ∀ c, row = some c → c < lo) : LAt W' lo v zs := by
  rcases h with h | ⟨g, cap, e, hc, hlo, hl, hcell⟩
  · exact Or.inl h
  · exact Or.inr ⟨g, cap, e, hc, hlo, Nat.lt_of_lt_of_le hl hg.size, fun i hi => (World.cell?_of_block (hg.block g hl (fun e => by have := hr g e.symm; omega))).trans (hcell i hi)⟩
theorem LAt.below {W W' : World} {lo : Nat} {v : Value} {zs : List Nat} (h : LAt W lo v zs) (hb : Below W.heap.size W W') : LAt W' lo v zs :=
  h.keep (row := none) ⟨hb.os, hb.tape, hb.output, hb.size, fun k hk _ => hb.block k hk⟩ fun _ h => by cases h
theorem LAt.of_owns {W : World} {lo lo' n : Nat} {e : TypeId} {v : Value} {zs : List Nat} (h : W.ownsRow lo' e 1 v n (cellsOf zs)) (hlo : lo ≤ lo') : LAt W lo v zs := by
  have hn : zs.length = n := by have := h.1; unfold cellsOf at this; rw [List.length_map] at this; omega
  have h0 := h
  rcases h.2 with ⟨rfl, h2⟩ | ⟨g, cap, cur, rfl, hb, hg, hc, _⟩
  · exact Or.inl ⟨rfl, List.eq_nil_of_length_eq_zero (by omega)⟩
  · refine Or.inr ⟨g, cap, by rw [hn], by omega, by omega, (h0.lt g rfl).2, fun i hi => ?_⟩
    have := h0.cells (g := g) rfl i (.int .i64 (zs.getD i 0 : Nat)) (by
      unfold cellsOf
      rw [List.getElem?_map, List.getD_eq_getElem?_getD, List.getElem?_eq_getElem hi]; rfl)
    rwa [addr_add0, Nat.zero_add] at this
theorem cells_app (A B : List Nat) : cellsOf (A ++ B) = cellsOf A ++ cellsOf B := List.map_append

theorem mem_max (M : Nat → Bool) (n : Nat) : (mem M n).length ≤ n := by rw [mem_len]; exact cnt_le _ _

theorem rput_at {w : World} {lo n : Nat} {v : Value} {M : Nat → Bool} (x : Nat) (hx : x < n) (hn : n ≤ 300) (hlo : lo ≤ w.heap.size) (h : LAt w lo v (mem M n)) :
    Calls Tryd.prog 13 #[v, .int .i64 x] w fun e w' => ∃ v', e = .returned v' ∧ Below w.heap.size w w' ∧ LAt w' lo v' (mem (upd M x true) n) := by
  have hp := mem_parts M hx
  have hu := mem_upd M true hx
  have hA : ∀ a ∈ mem M x, a < x := fun a ha => mem_lt ha
  have hB : ∀ b ∈ restOf M (x + 1) (n - x - 1), x < b := fun b hb => rest_ge hb
  have hmax := mem_max M n
  rw [if_pos rfl] at hu
  generalize mem M x = A at *
  generalize restOf M (x + 1) (n - x - 1) = B at *
  by_cases hM : M x = true
  · rw [if_pos hM] at hp
    rw [hu, ← hp]
    have h0 := h
    rcases h with ⟨rfl, h2⟩ | ⟨g, cap, rfl, hc, hlo2, hg, hcell⟩
    · rw [h2] at hp; simp at hp
    · refine (rput_here (P := A.length) (zs := mem M n) x ?_ (by omega) ?_ ?_ hcell).mono ?_
      · rw [hp, List.length_append, List.length_append, List.length_singleton]; omega
      · intro i hi
        rw [hp, List.getD_eq_getElem?_getD, List.getElem?_append_left hi, List.getElem?_eq_getElem hi]
        exact hA _ (List.getElem_mem _)
      · rw [hp, List.getD_eq_getElem?_getD, List.getElem?_append_right (Nat.le_refl _), Nat.sub_self]; rfl
      · rintro e w' ⟨rfl, rfl⟩
        exact ⟨_, rfl, Below.refl _ _, h0⟩
  · rw [if_neg hM, List.nil_append] at hp
    rw [hu]
    rcases h with ⟨rfl, h2⟩ | ⟨g, cap, rfl, hc, hlo2, hg, hcell⟩
    · rw [h2] at hp
      obtain ⟨rfl, rfl⟩ := List.append_eq_nil_iff.1 hp.symm
      refine (rput_nil x).mono ?_
      rintro e w' ⟨v', rfl, hb, ho⟩
      exact ⟨v', rfl, hb, LAt.of_owns (e := 3) (zs := [x]) ho hlo⟩
    · refine (rput_some (P := A.length) (zs := mem M n) x hp hA hB rfl rfl (by omega) hg hcell hc).mono ?_
      rintro e w' ⟨v', rfl, hb, ho⟩
      refine ⟨v', rfl, hb, LAt.of_owns (e := 3) (zs := A ++ ([x] ++ B)) (n := (mem M n).length + 1) ?_ hlo⟩
      rw [cells_app, cells_app, ← List.append_assoc]
      exact ho

theorem rout_at {w : World} {lo n : Nat} {v : Value} {M : Nat → Bool} (x : Nat) (hx : x < n) (hn : n ≤ 300) (hlo : lo ≤ w.heap.size) (hM : M x = true) (h : LAt w lo v (mem M n)) :
    Calls Tryd.prog 15 #[v, .int .i64 x] w fun e w' => ∃ v', e = .returned (.tuple #[v', .bool true]) ∧ Below w.heap.size w w' ∧ LAt w' lo v' (mem (upd M x false) n) := by
  have hp := mem_parts M hx
  have hu := mem_upd M false hx
  have hA : ∀ a ∈ mem M x, a < x := fun a ha => mem_lt ha
  have hmax := mem_max M n
  rw [if_neg (by simp), List.nil_append] at hu
  generalize mem M x = A at *
  generalize restOf M (x + 1) (n - x - 1) = B at *
  rw [if_pos hM] at hp
  rw [hu]
  rcases h with ⟨rfl, h2⟩ | ⟨g, cap, rfl, hc, hlo2, hg, hcell⟩
  · rw [h2] at hp; simp at hp
  · refine (rout_some (P := A.length) (B := B) (zs := mem M n) x hp hA rfl rfl (by omega) hg hcell hc).mono ?_
    rintro e w' ⟨v', rfl, hb, ho⟩
    refine ⟨v', rfl, hb, LAt.of_owns (e := 3) (zs := A ++ B) (n := A.length + ((mem M n).length - (A.length + 1))) ?_ hlo⟩
    rw [cells_app]
    exact ho
theorem rout_no {w : World} {lo n : Nat} {v : Value} {M : Nat → Bool} (x : Int) (hn : n ≤ 300) (hM : ∀ i, n ≤ i → M i = false) (hx : hasI M x = false) (h : LAt w lo v (mem M n)) :
    Calls Tryd.prog 15 #[v, .int .i64 x] w (Same (.tuple #[v, .bool false]) w) :=
  rout_not x (h.ints (by have := mem_max M n; omega)) fun hc => by
    have := mem_ints hM x
    rw [hx, decide_eq_false_iff_not] at this
    exact this hc
end Go.Proofs.YtoamabmnbldgkaaDoor
