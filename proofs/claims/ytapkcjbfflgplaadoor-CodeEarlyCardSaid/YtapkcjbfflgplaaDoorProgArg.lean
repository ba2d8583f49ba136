/- A program that came in, as the walk asks it. -/
import Derived.Test.YtapkcjbfflgplaaDoorMay
import Derived.Deep.Slices
import Derived.ChangeSame
namespace Go.Proofs.YtapkcjbfflgplaaDoor
open Go.ChangeShapes Go.WideShapes Go.WideElems Go.RowKit Go.Lib Go.Deep Fx Ho
set_option linter.unusedVariables false
namespace Cd
section
variable {H : Type} {enc : TypeId × Value → H}
set_option maxRecDepth 100000 in
theorem irow_arg {W : World} {base fuel : Nat} {spare : Nat → Bool} {held : Bool} {cs : List Value} {x : DataW H × List MemPlace} (hf : DataW.trod enc Tryd.prog W base spare held fuel 30 cs = some x) : ∃ v l, cs = [v] ∧ IRow W v l := by
  rcases open_slice Tryd.underlying30 hf with ⟨hcs, _⟩ | ⟨a, len, cap, m, n, D, Pl, hcs, _, hl, hm, hmm, _, hx⟩
  · exact ⟨_, [], hcs, none, 0, rfl, by simp, fun i hi => by simp at hi⟩
  · have hlm : len ≤ m := by rw [hmm]; split <;> omega
    have ce : Tryd.prog.cellsOf 29 = 4 := by kernel_rfl
    have ci : Tryd.prog.cellsOf 3 = 1 := by kernel_rfl
    have each : ∀ i, i < m → ∃ q : Ins, W.cell? (a.add (i * 4)) = some (.int .i64 q.1) ∧ W.cell? (a.add (i * 4 + 1)) = some (.int .i64 q.2.1) ∧ W.cell? (a.add (i * 4 + 2)) = some (.int .i64 q.2.2.1) ∧ W.cell? (a.add (i * 4 + 3)) = some (.int .i64 q.2.2.2) := by
      intro i hi
      obtain ⟨cs', h1, h2⟩ := hx i hi
      rw [ce] at h1
      obtain ⟨_, hlen, hcell⟩ := World.cells?_some h1
      obtain ⟨xs, k, hk, hxy, _, hxl, hf⟩ := DataW.trod_struct Tryd.underlying29 h2
      match xs, hxl, cs', hlen with
      | [y0, y1, y2, y3], _, [v0, v1, v2, v3], _ =>
        have g0 := hf 0 _ rfl
        have g1 := hf 1 _ rfl
        have g2 := hf 2 _ rfl
        have g3 := hf 3 _ rfl
        simp [ci] at g0 g1 g2 g3
        obtain ⟨n0, e0, _, w0⟩ := DataW.trod_int Tryd.underlying3 g0
        obtain ⟨n1, e1, _, w1⟩ := DataW.trod_int Tryd.underlying3 g1
        obtain ⟨n2, e2, _, w2⟩ := DataW.trod_int Tryd.underlying3 g2
        obtain ⟨n3, e3, _, w3⟩ := DataW.trod_int Tryd.underlying3 g3
        simp at e0 e1 e2 e3
        subst e0 e1 e2 e3
        have k0 := hcell 0 (by omega)
        have k1 := hcell 1 (by omega)
        have k2 := hcell 2 (by omega)
        have k3 := hcell 3 (by omega)
        rw [add_add] at k0 k1 k2 k3
        exact ⟨(n0, n1, n2, n3), by simpa using k0, by simpa using k1, by simpa using k2, by simpa using k3⟩
    obtain ⟨q, hq⟩ := choose_lt each
    by_cases h0 : len = 0
    · subst h0; exact ⟨_, [], hcs, some a, cap, rfl, by simp, fun i hi => by simp at hi⟩
    · obtain ⟨b, off, spot⟩ := a
      have c0 := (hq 0 (by omega)).1
      have hspot : spot = none := by simpa [Addr.add] using World.cell?_spot c0
      subst hspot
      have hll : ((List.range len).map q).length = len := by simp
      refine ⟨_, (List.range len).map q, hcs, some ⟨b, off, none⟩, cap, by rw [hll], by rw [hll]; unfold maxLen at hm; omega, fun i hi => ⟨b, off, rfl, ?_⟩⟩
      rw [hll] at hi
      have e : ((List.range len).map q).getD i zi = q i := by simp [List.getD, hi]
      rw [e, Nat.add_assoc, Nat.add_assoc, Nat.add_assoc, ← addr_add, ← addr_add, ← addr_add, ← addr_add]
      exact hq i (by omega)
set_option maxRecDepth 100000 in
theorem frow_arg {W : World} {base fuel : Nat} {spare : Nat → Bool} {held : Bool} {cs : List Value} {x : DataW H × List MemPlace} (hf : DataW.trod enc Tryd.prog W base spare held fuel 47 cs = some x) : ∃ v fs, cs = [v] ∧ FRow W v fs := by
  rcases open_slice1 Tryd.underlying47 (by kernel_rfl) hf with ⟨hcs, _⟩ | ⟨a, len, cap, m, n, V, D, Pl, hcs, _, hl, hm, hmm, _, hx⟩
  · exact ⟨_, [], hcs, none, 0, rfl, by simp, fun i hi => by simp at hi⟩
  · have hlm : len ≤ m := by rw [hmm]; split <;> omega
    have each : ∀ i, i < m → ∃ l : List Ins, W.cell? (a.add i) = some (V i) ∧ IRow W (V i) l := by
      intro i hi
      obtain ⟨h1, h2⟩ := hx i hi
      obtain ⟨v, l, e, h3⟩ := irow_arg h2
      cases e
      exact ⟨l, h1, h3⟩
    obtain ⟨q, hq⟩ := choose_lt each
    by_cases h0 : len = 0
    · subst h0; exact ⟨_, [], hcs, some a, cap, rfl, by simp, fun i hi => by simp at hi⟩
    · obtain ⟨b, off, spot⟩ := a
      have c0 := (hq 0 (by omega)).1
      have hspot : spot = none := by simpa [Addr.add] using World.cell?_spot c0
      subst hspot
      have hll : ((List.range len).map q).length = len := by simp
      refine ⟨_, (List.range len).map q, hcs, some ⟨b, off, none⟩, cap, by rw [hll], by rw [hll]; unfold maxLen at hm; omega, fun i hi => ⟨b, off, V i, rfl, ?_⟩⟩
      rw [hll] at hi
      have e : ((List.range len).map q).getD i [] = q i := by simp [List.getD, hi]
      rw [e, ← addr_add]
      exact hq i (by omega)
set_option maxRecDepth 100000 in
theorem prog_arg {W : World} {base : Nat} {v : Value} {d : DataW H} {p : List MemPlace} (hval : Value.okWide Tryd.prog W .any base 49 v) (h : DataW.Trod enc Tryd.prog W 0 (fun _ => true) true 49 v d p) : ∃ G fv fs, v = .agg #[.int .i64 G, fv] ∧ FRow W fv fs := by
  obtain ⟨cs, rfl, hcs⟩ := okWide_struct Tryd.underlying49 hval
  obtain ⟨fuel, hf⟩ := h
  have c2 : Tryd.prog.cellsOf 49 = 2 := by kernel_rfl
  have ci : Tryd.prog.cellsOf 3 = 1 := by kernel_rfl
  have cf : Tryd.prog.cellsOf 47 = 1 := by kernel_rfl
  rw [c2] at hcs
  obtain ⟨v0, v1, rfl⟩ : ∃ v0 v1, cs = #[v0, v1] := ⟨cs[0], cs[1], by
    apply Array.ext
    · simp [hcs]
    · intro i h1 h2
      rcases (show i = 0 ∨ i = 1 by omega) with rfl | rfl <;> rfl⟩
  obtain ⟨y0, y1, n, _, hl, g0, g1⟩ := trod_struct2 Tryd.underlying49 hf
  simp [Value.cells, ci, cf] at g0 g1
  obtain ⟨z, e0, _, w0⟩ := DataW.trod_int Tryd.underlying3 g0
  obtain ⟨fv, fs, e1, h1⟩ := frow_arg g1
  simp at e0 e1
  subst e0 e1
  exact ⟨z, _, fs, rfl, h1⟩
end
end Cd
end Go.Proofs.YtapkcjbfflgplaaDoor
