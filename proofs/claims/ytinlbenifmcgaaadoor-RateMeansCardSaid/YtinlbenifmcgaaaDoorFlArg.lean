/- A slice of floats that came in; the library's tables as the rows tell them. -/
import Derived.Test.YtinlbenifmcgaaaDoorRateTold
import Derived.Deep.Slices
import Derived.Lib.LaidTab
import Derived.LaidMore
import Derived.Stop.LaidErr
namespace Go.Proofs.YtinlbenifmcgaaaDoor
open Go.ChangeShapes Go.WideShapes Go.WideElems Go.RowKit Go.Lib Go.Deep Fx Ho
set_option linter.unusedVariables false
namespace Pr
section
variable {H : Type} {enc : TypeId × Value → H}
theorem trod_float {P : Program} {w : World} {base : Nat} {spare : Nat → Bool} {held : Bool} {fuel : Nat} {t : TypeId} {cs : List Value} {x : DataW H × List MemPlace} {k : FloatKind} (ht : P.underlying t = some (.float k)) (h : DataW.trod enc P w base spare held fuel t cs = some x) : ∃ n, cs = [.float k n] ∧ (Lit.float k n).wf = true := by
  cases fuel with
  | zero => simp [DataW.trod] at h
  | succ n =>
    unfold DataW.trod at h
    rw [ht] at h
    split at h <;> simp_all
set_option maxRecDepth 100000 in
theorem fls_arg {W : World} {base : Nat} {v : Value} {d : DataW H} {p : List MemPlace} (hval : Value.okWide Tryd.prog W .any base 22 v) (h : DataW.Trod enc Tryd.prog W 0 (fun _ => true) true 22 v d p) : ∃ zs, Fls W v zs := by
  obtain ⟨a0, len, cap, rfl⟩ := okWide_slice Tryd.underlying22 hval
  obtain ⟨fuel, hf⟩ := h
  rcases open_slice Tryd.underlying22 hf with ⟨hcs, _⟩ | ⟨a, len', cap', m, n, D, Pl, hcs, _, hl, hm, hmm, _, hx⟩
  · simp [Value.cells] at hcs
    obtain ⟨rfl, rfl, rfl⟩ := hcs
    exact ⟨[], ⟨none, 0, rfl, by simp, fun i hi => by simp at hi⟩, fun x hx => by simp at hx⟩
  · simp [Value.cells] at hcs
    obtain ⟨rfl, rfl, rfl⟩ := hcs
    simp only [if_true] at hmm
    have ce : Tryd.prog.cellsOf 23 = 1 := by kernel_rfl
    have each : ∀ i, i < m → ∃ q : Nat, W.cell? (a.add i) = some (.float .f64 q) ∧ Wf q := by
      intro i hi
      obtain ⟨cs', h1, h2⟩ := hx i hi
      rw [ce] at h1
      obtain ⟨_, hlen, hcell⟩ := World.cells?_some h1
      match cs', hlen with
      | [v0], _ =>
        obtain ⟨n2, e2, hw⟩ := trod_float Tryd.underlying23 h2
        have k0 := hcell 0 (by omega)
        rw [add_add] at k0
        exact ⟨n2, by simpa [e2] using k0, by simpa [Lit.wf, Wf] using hw⟩
    obtain ⟨q, hq⟩ := choose_lt each
    by_cases h0 : len = 0
    · subst h0; exact ⟨[], ⟨some a, cap, rfl, by simp, fun i hi => by simp at hi⟩, fun x hx => by simp at hx⟩
    · obtain ⟨b, off, spot⟩ := a
      have hlm : len ≤ m := by omega
      have c0 := (hq 0 (by omega)).1
      have hspot : spot = none := by simpa [Addr.add] using World.cell?_spot c0
      subst hspot
      have hll : ((List.range len).map q).length = len := by simp
      refine ⟨(List.range len).map q, ⟨some ⟨b, off, none⟩, cap, by rw [hll], by rw [hll]; unfold maxLen at hm; omega, fun i hi => ⟨b, off, rfl, World.block_lt_of_cell? W _ c0, ?_⟩⟩, fun x hx => ?_⟩
      · rw [hll] at hi
        rw [← addr_add, (hq i (by omega)).1]
        simp [List.getD, hi]
      · obtain ⟨i, hi, rfl⟩ := List.mem_map.1 hx
        exact (hq i (by have := List.mem_range.1 hi; omega)).2
end
theorem wf_float {a : Nat} (h : (Lit.float .f64 a).wf = true) : Wf a := by simpa [Lit.wf, Wf] using h
set_option maxRecDepth 100000 in
theorem few_any {w : World} {v : Value} {zs : List Nat} (h : Fls w v zs) : Calls Tryd.prog 10 #[v] w (Still (.bool (decide (zs.length ≤ 60))) w) := by
  obtain ⟨⟨sp, cap, rfl, hl, _⟩, _⟩ := h
  generalize zs.length = n at *
  have e : decide (n ≤ 60) = decide ((n : Int) ≤ 60) := by
    by_cases h : n ≤ 60
    · rw [decide_eq_true h, decide_eq_true (by omega)]
    · rw [decide_eq_false h, decide_eq_false (by omega)]
  rw [e]
  clear e
  go_enter Tryd.func10, Tryd.ntmps10
  go_wp2_with fail
  go_ret
  exact ⟨rfl, rfl⟩
open Fk Fl Ieee in
/-- Of two numbers: one is no zero, or both are. -/
theorem zeros_way {a b : Nat} (ha : Wf a) (hb : Wf b) (na : isN a = false) (nb : isN b = false) : (∃ o, FloatKind.f64.format.order a 0 = some o ∧ o ≠ .eq) ∨ (FloatKind.f64.format.order a 0 = some .eq ∧ ∃ o, FloatKind.f64.format.order b 0 = some o ∧ o ≠ .eq) ∨ (∃ s t, Zero a s ∧ Zero b t ∧ FloatKind.f64.format.order a 0 = some .eq ∧ FloatKind.f64.format.order b 0 = some .eq) := by
  have h0 : Wf 0 := by unfold Wf; omega
  obtain ⟨o, ho, hw⟩ := ord_lt ha h0 na (by decide +kernel)
  rcases hw with ⟨rfl, _⟩ | ⟨rfl, _⟩ | ⟨rfl, ⟨s, t, zs, _⟩ | ⟨_, o', h1, h2⟩⟩
  · exact Or.inl ⟨_, ho, by decide⟩
  · exact Or.inl ⟨_, ho, by decide⟩
  · right
    obtain ⟨o2, ho2, hw2⟩ := ord_lt hb h0 nb (by decide +kernel)
    rcases hw2 with ⟨rfl, _⟩ | ⟨rfl, _⟩ | ⟨rfl, ⟨s2, t2, zs2, _⟩ | ⟨_, o', h1, h2⟩⟩
    · exact Or.inl ⟨ho, _, ho2, by decide⟩
    · exact Or.inl ⟨ho, _, ho2, by decide⟩
    · exact Or.inr ⟨s, s2, zs, zs2, ho, ho2⟩
    · rw [ho2] at h2; cases h2; exact absurd rfl h1
  · rw [ho] at h2; cases h2; exact absurd rfl h1
/-- The rows' condition on the library's tables, as the walks ask it. -/
theorem tab_of_laid {W : World} (h : laidMetH Tryd.prog [("math/bits.deBruijn32tab", Rows.laid_math_bits_deBruijn32tab), ("math/bits.deBruijn64tab", Rows.laid_math_bits_deBruijn64tab), ("internal/strconv.uint64pow10", Rows.laid_internal_strconv_uint64pow10)] W) : Tab W := by
  rw [MakeChecks.laidMetH_plain _ _ _ (by kernel_rfl)] at h
  exact Lib.tabBelow_of_tabIs (Lib.tabIs_of_head (k := .u64) (zs := Lib.pow10Tab) (g := 1) (t := 72) (e := 54) (n := 20) (by kernel_rfl) (by kernel_rfl) Tryd.underlying72 Tryd.underlying54 (by kernel_rfl) (by kernel_rfl) (show laidMet Tryd.prog (("internal/strconv.uint64pow10", Lib.tabData .u64 Lib.pow10Tab) :: []) W from h.tail.tail))
/-- The heap that the program's own door leaves meets the rows' condition. -/
theorem door_met (os : Os) (args : Array Value) : laidMetH Tryd.prog [("math/bits.deBruijn32tab", Rows.laid_math_bits_deBruijn32tab), ("math/bits.deBruijn64tab", Rows.laid_math_bits_deBruijn64tab), ("internal/strconv.uint64pow10", Rows.laid_internal_strconv_uint64pow10)] ((World.doorLaid Tryd.prog 400 os).forCall (fun _ _ => 0) ⟨#[], args, []⟩).memory :=
  laidMetH_of_parts3 (fuel := 8) (laidMet_of_run' 8 (by kernel_rfl) (by kernel_rfl)) (by kernel_rfl) (by kernel_rfl)
end Pr
end Go.Proofs.YtinlbenifmcgaaaDoor
