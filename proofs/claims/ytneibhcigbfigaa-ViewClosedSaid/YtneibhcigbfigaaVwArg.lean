/- A view that came in, as the walk asks it. -/
import Derived.Test.YtneibhcigbfigaaVwMem
import Derived.Deep.Slices
import Derived.ChangeSame
namespace Go.Proofs.Ytneibhcigbfigaa
open Go.ChangeShapes Go.WideShapes Go.WideElems Go.RowKit Go.Lib Go.Deep Fx Ho
set_option linter.unusedVariables false
set_option linter.unusedSimpArgs false
namespace Vw
section
variable {H : Type} {enc : TypeId × Value → H}
theorem all_map {α : Type} {q : Nat → α} {n : Nat} {P : α → Prop} (h : ∀ i, i < n → P (q i)) : ∀ x ∈ (List.range n).map q, P x := fun x hx => by
  obtain ⟨i, hi, rfl⟩ := List.mem_map.1 hx
  exact h i (List.mem_range.1 hi)
set_option maxRecDepth 100000 in
theorem numrow_arg {W : World} {base fuel : Nat} {spare : Nat → Bool} {held : Bool} {cs : List Value} {x : DataW H × List MemPlace} (hf : DataW.trod enc Try.prog W base spare held fuel 23 cs = some x) : ∃ v zs, cs = [v] ∧ Ints W Any v zs ∧ ∀ z ∈ zs, WfI z := by
  rcases open_slice1 Try.underlying23 (by kernel_rfl) hf with ⟨hcs, _⟩ | ⟨a, len, cap, m, n, V, D, Plc, hcs, _, hl, hm, hmm, _, hx⟩
  · exact ⟨_, [], hcs, ⟨none, 0, rfl, by simp, fun i hi => by simp at hi⟩, fun z hz => by cases hz⟩
  · have hlm : len ≤ m := by rw [hmm]; split <;> omega
    have each : ∀ i, i < m → ∃ z : Int, W.cell? (a.add i) = some (.int .i64 z) ∧ WfI z := by
      intro i hi
      obtain ⟨h1, h2⟩ := hx i hi
      obtain ⟨z, e, _, w0⟩ := DataW.trod_int Try.underlying3 h2
      rw [(List.cons.inj e).1] at h1
      exact ⟨z, h1, w0⟩
    obtain ⟨q, hq⟩ := choose_lt each
    by_cases h0 : len = 0
    · subst h0; exact ⟨_, [], hcs, ⟨some a, cap, rfl, by simp, fun i hi => by simp at hi⟩, fun z hz => by cases hz⟩
    · obtain ⟨b, off, spot⟩ := a
      have c0 := (hq 0 (by omega)).1
      have hspot : spot = none := by simpa [Addr.add] using World.cell?_spot c0
      subst hspot
      have hll : ((List.range len).map q).length = len := by simp
      refine ⟨_, (List.range len).map q, hcs, ⟨some ⟨b, off, none⟩, cap, by rw [hll], by rw [hll]; unfold maxLen at hm; omega, fun i hi => ?_⟩, all_map fun i hi => (hq i (by omega)).2⟩
      rw [hll] at hi
      have e : ((List.range len).map q).getD i 0 = q i := by simp [List.getD, hi]
      have k0 := (hq i (by omega)).1
      rw [addr_add] at k0
      exact ⟨b, off, rfl, trivial, World.block_lt_of_cell? W _ k0, by rw [e]; exact k0⟩
set_option maxRecDepth 100000 in
theorem gsrow_arg {W : World} {base fuel : Nat} {spare : Nat → Bool} {held : Bool} {cs : List Value} {x : DataW H × List MemPlace} (hf : DataW.trod enc Try.prog W base spare held fuel 27 cs = some x) : ∃ v gs, cs = [v] ∧ GsRow W v gs ∧ ∀ g ∈ gs, ∀ z ∈ g.2.2, WfI z := by
  rcases open_slice Try.underlying27 hf with ⟨hcs, _⟩ | ⟨a, len, cap, m, n, D, Plc, hcs, _, hl, hm, hmm, _, hx⟩
  · exact ⟨_, [], hcs, ⟨none, 0, rfl, by simp, fun i hi => by simp at hi⟩, fun z hz => by cases hz⟩
  · have hlm : len ≤ m := by rw [hmm]; split <;> omega
    have ce : Try.prog.cellsOf 26 = 3 := by kernel_rfl
    have ci : Try.prog.cellsOf 3 = 1 := by kernel_rfl
    have cz : Try.prog.cellsOf 23 = 1 := by kernel_rfl
    have each : ∀ i, i < m → ∃ q : Gor, (∃ sv, W.cell? (a.add (i * 3)) = some (.int .i64 q.1) ∧ W.cell? (a.add (i * 3 + 1)) = some (.int .i64 q.2.1) ∧ W.cell? (a.add (i * 3 + 2)) = some sv ∧ Ints W Any sv q.2.2) ∧ ∀ z ∈ q.2.2, WfI z := by
      intro i hi
      obtain ⟨cs', h1, h2⟩ := hx i hi
      rw [ce] at h1
      obtain ⟨_, hlen, hcell⟩ := World.cells?_some h1
      obtain ⟨xs, k, hk, hxy, _, hxl, hf⟩ := DataW.trod_struct Try.underlying26 h2
      match xs, hxl, cs', hlen with
      | [y0, y1, y2], _, [v0, v1, v2], _ =>
        have g0 := hf 0 _ rfl
        have g1 := hf 1 _ rfl
        have g2 := hf 2 _ rfl
        simp [ci, cz] at g0 g1 g2
        obtain ⟨n0, e0, _, w0⟩ := DataW.trod_int Try.underlying3 g0
        obtain ⟨n1, e1, _, w1⟩ := DataW.trod_int Try.underlying3 g1
        obtain ⟨sv, zs, e2, hz, hw⟩ := numrow_arg g2
        simp at e0 e1 e2
        subst e0 e1 e2
        have k0 := hcell 0 (by omega)
        have k1 := hcell 1 (by omega)
        have k2 := hcell 2 (by omega)
        rw [add_add] at k0 k1 k2
        exact ⟨(n0, n1, zs), ⟨_, by simpa using k0, by simpa using k1, by simpa using k2, hz⟩, hw⟩
    obtain ⟨q, hq⟩ := choose_lt each
    by_cases h0 : len = 0
    · subst h0; exact ⟨_, [], hcs, ⟨some a, cap, rfl, by simp, fun i hi => by simp at hi⟩, fun z hz => by cases hz⟩
    · obtain ⟨b, off, spot⟩ := a
      have c0 := (hq 0 (by omega)).1.choose_spec.1
      have hspot : spot = none := by simpa [Addr.add] using World.cell?_spot c0
      subst hspot
      have hll : ((List.range len).map q).length = len := by simp
      refine ⟨_, (List.range len).map q, hcs, ⟨some ⟨b, off, none⟩, cap, by rw [hll], by rw [hll]; unfold maxLen at hm; omega, fun i hi => ?_⟩, all_map fun i hi => (hq i (by omega)).2⟩
      rw [hll] at hi
      have e : ((List.range len).map q).getD i g0 = q i := by simp [List.getD, hi]
      obtain ⟨sv, k0, k1, k2, k3⟩ := (hq i (by omega)).1
      rw [addr_add] at k0 k1 k2
      exact ⟨b, off, sv, rfl, World.block_lt_of_cell? W _ k0, by rw [e]; exact k0, by rw [e, Nat.add_assoc]; exact k1, by rw [Nat.add_assoc]; exact k2, by rw [e]; exact k3⟩
set_option maxRecDepth 100000 in
theorem osrow_arg {W : World} {base fuel : Nat} {spare : Nat → Bool} {held : Bool} {cs : List Value} {x : DataW H × List MemPlace} (hf : DataW.trod enc Try.prog W base spare held fuel 30 cs = some x) : ∃ v os, cs = [v] ∧ OsRow W v os ∧ (∀ o ∈ os, WfI o.1) ∧ ∀ o ∈ os, ∀ z ∈ o.2.1, WfI z := by
  rcases open_slice Try.underlying30 hf with ⟨hcs, _⟩ | ⟨a, len, cap, m, n, D, Plc, hcs, _, hl, hm, hmm, _, hx⟩
  · exact ⟨_, [], hcs, ⟨none, 0, rfl, by simp, fun i hi => by simp at hi⟩, fun z hz => (by cases hz), fun z hz => by cases hz⟩
  · have hlm : len ≤ m := by rw [hmm]; split <;> omega
    have ce : Try.prog.cellsOf 29 = 3 := by kernel_rfl
    have ci : Try.prog.cellsOf 3 = 1 := by kernel_rfl
    have cz : Try.prog.cellsOf 23 = 1 := by kernel_rfl
    have cb : Try.prog.cellsOf 4 = 1 := by kernel_rfl
    have each : ∀ i, i < m → ∃ q : Ob, (∃ sv, W.cell? (a.add (i * 3)) = some (.int .i64 q.1) ∧ W.cell? (a.add (i * 3 + 1)) = some sv ∧ W.cell? (a.add (i * 3 + 2)) = some (.bool q.2.2) ∧ Ints W Any sv q.2.1) ∧ WfI q.1 ∧ ∀ z ∈ q.2.1, WfI z := by
      intro i hi
      obtain ⟨cs', h1, h2⟩ := hx i hi
      rw [ce] at h1
      obtain ⟨_, hlen, hcell⟩ := World.cells?_some h1
      obtain ⟨xs, k, hk, hxy, _, hxl, hf⟩ := DataW.trod_struct Try.underlying29 h2
      match xs, hxl, cs', hlen with
      | [y0, y1, y2], _, [v0, v1, v2], _ =>
        have g0 := hf 0 _ rfl
        have g1 := hf 1 _ rfl
        have g2 := hf 2 _ rfl
        simp [ci, cz, cb] at g0 g1 g2
        obtain ⟨n0, e0, _, w0⟩ := DataW.trod_int Try.underlying3 g0
        obtain ⟨sv, zs, e1, hz, hw⟩ := numrow_arg g1
        obtain ⟨m2, e2, _⟩ := DataW.trod_bool Try.underlying4 g2
        simp at e0 e1 e2
        subst e0 e1 e2
        have k0 := hcell 0 (by omega)
        have k1 := hcell 1 (by omega)
        have k2 := hcell 2 (by omega)
        rw [add_add] at k0 k1 k2
        exact ⟨(n0, zs, m2), ⟨_, by simpa using k0, by simpa using k1, by simpa using k2, hz⟩, w0, hw⟩
    obtain ⟨q, hq⟩ := choose_lt each
    by_cases h0 : len = 0
    · subst h0; exact ⟨_, [], hcs, ⟨some a, cap, rfl, by simp, fun i hi => by simp at hi⟩, fun z hz => (by cases hz), fun z hz => by cases hz⟩
    · obtain ⟨b, off, spot⟩ := a
      have c0 := (hq 0 (by omega)).1.choose_spec.1
      have hspot : spot = none := by simpa [Addr.add] using World.cell?_spot c0
      subst hspot
      have hll : ((List.range len).map q).length = len := by simp
      refine ⟨_, (List.range len).map q, hcs, ⟨some ⟨b, off, none⟩, cap, by rw [hll], by rw [hll]; unfold maxLen at hm; omega, fun i hi => ?_⟩, all_map fun i hi => (hq i (by omega)).2.1, all_map fun i hi => (hq i (by omega)).2.2⟩
      rw [hll] at hi
      have e : ((List.range len).map q).getD i o0 = q i := by simp [List.getD, hi]
      obtain ⟨sv, k0, k1, k2, k3⟩ := (hq i (by omega)).1
      rw [addr_add] at k0 k1 k2
      exact ⟨b, off, sv, rfl, World.block_lt_of_cell? W _ k0, by rw [e]; exact k0, by rw [Nat.add_assoc]; exact k1, by rw [e, Nat.add_assoc]; exact k2, by rw [e]; exact k3⟩
theorem nine {cs : Array Value} (h : cs.size = 9) : ∃ v0 v1 v2 v3 v4 v5 v6 v7 v8, cs = #[v0, v1, v2, v3, v4, v5, v6, v7, v8] := ⟨cs[0], cs[1], cs[2], cs[3], cs[4], cs[5], cs[6], cs[7], cs[8], by
  apply Array.ext
  · simp [h]
  · intro i h1 h2
    rcases (show i = 0 ∨ i = 1 ∨ i = 2 ∨ i = 3 ∨ i = 4 ∨ i = 5 ∨ i = 6 ∨ i = 7 ∨ i = 8 by omega) with rfl | rfl | rfl | rfl | rfl | rfl | rfl | rfl | rfl <;> rfl⟩
set_option maxRecDepth 100000 in
theorem view_arg {W : World} {base : Nat} {v : Value} {d : DataW H} {p : List MemPlace} (hval : Value.okWide Try.prog W .any base 32 v) (h : DataW.Trod enc Try.prog W 0 (fun _ => true) true 32 v d p) : ∃ V vg vs vo, v = vv V vg vs vo ∧ IsV W V vg vs vo := by
  obtain ⟨cs, rfl, hcs⟩ := okWide_struct Try.underlying32 hval
  obtain ⟨fuel, hf⟩ := h
  have c9 : Try.prog.cellsOf 32 = 9 := by kernel_rfl
  have ci : Try.prog.cellsOf 3 = 1 := by kernel_rfl
  have ck : Try.prog.cellsOf 2 = 1 := by kernel_rfl
  have cz : Try.prog.cellsOf 23 = 1 := by kernel_rfl
  have cg : Try.prog.cellsOf 27 = 1 := by kernel_rfl
  have co : Try.prog.cellsOf 30 = 1 := by kernel_rfl
  rw [c9] at hcs
  obtain ⟨v0, v1, v2, v3, v4, v5, v6, v7, v8, rfl⟩ := nine hcs
  obtain ⟨xs, k, hk, hxy, _, hxl, hf⟩ := DataW.trod_struct Try.underlying32 hf
  match xs, hxl with
  | [y0, y1, y2, y3, y4, y5, y6, y7, y8], _ =>
    have g0 := hf 0 _ rfl
    have g1 := hf 1 _ rfl
    have g2 := hf 2 _ rfl
    have g3 := hf 3 _ rfl
    have g4 := hf 4 _ rfl
    have g5 := hf 5 _ rfl
    have g6 := hf 6 _ rfl
    have g7 := hf 7 _ rfl
    have g8 := hf 8 _ rfl
    simp [Value.cells, ci, ck, cz, cg, co] at g0 g1 g2 g3 g4 g5 g6 g7 g8
    obtain ⟨n0, e0, _, w0⟩ := DataW.trod_int Try.underlying3 g0
    obtain ⟨n1, e1, _, w1⟩ := DataW.trod_int Try.underlying3 g1
    obtain ⟨n2, e2, _, w2⟩ := DataW.trod_int Try.underlying2 g2
    obtain ⟨vg, zs, e3, hz, hw3⟩ := numrow_arg g3
    obtain ⟨vs, gs, e4, hg, hw4⟩ := gsrow_arg g4
    obtain ⟨vo, os, e5, ho, hw5, hw6⟩ := osrow_arg g5
    obtain ⟨n6, e6, _, w6⟩ := DataW.trod_int Try.underlying3 g6
    obtain ⟨n7, e7, _, w7⟩ := DataW.trod_int Try.underlying3 g7
    obtain ⟨n8, e8, _, w8⟩ := DataW.trod_int Try.underlying3 g8
    simp at e0 e1 e2 e3 e4 e5 e6 e7 e8
    subst e0 e1 e2 e3 e4 e5 e6 e7 e8
    exact ⟨⟨n0, n1, n2, zs, gs, os, n6, n7, n8⟩, _, _, _, rfl, hz, hg, ho, hw3, hw4, hw5, hw6⟩
end
end Vw
end Go.Proofs.Ytneibhcigbfigaa
