/- Less of a view: some names made 0, all marked, as mathematics. -/
import Derived.Test.YtneibhcigbfigaaVwFew
namespace Go.Proofs.Ytneibhcigbfigaa
open Go.RowKit Go.Lib Fx Ho Gr
set_option linter.unusedVariables false
namespace Vw
variable {k t n i j : Nat} {a x y : Int} {ts us R R' gl zs : List Int} {os os' : List Ob} {V V' : Vi}
theorem fidx_ads : ∀ {os os' : List Ob} {a : Int}, ads os = ads os' → fidx os a = fidx os' a
  | [], [], a, _ => rfl
  | [], o :: os, a, h => by simp [ads] at h
  | o :: os, [], a, h => by simp [ads] at h
  | o :: os, o' :: os', a, h => by
    have h : o.1 :: ads os = o'.1 :: ads os' := h
    unfold fidx
    rw [(List.cons.inj h).1, fidx_ads (List.cons.inj h).2]
theorem slo_no : ∀ {os : List Ob} {a : Int}, a ∉ ads os → slo os a = []
  | [], a, _ => rfl
  | o :: os, a, h => by
    have h : a ∉ o.1 :: ads os := h
    rw [List.mem_cons, not_or] at h
    show (if o.1 = a then o.2.1 else slo os a) = []
    rw [if_neg (fun e => h.1 e.symm)]
    exact slo_no h.2
theorem rch_less (hR : ∀ x ∈ R', x ∈ R) (ha : ads os' = ads os) (hs : ∀ i, i < os.length → ∀ x ∈ (os'.getD i o0).2.1, x ≠ 0 → x ∈ (os.getD i o0).2.1) (h : Rch R' os' a) : Rch R os a := by
  induction h with
  | root h1 h2 h3 => exact .root (hR _ h1) h2 (by rw [← ha]; exact h3)
  | step h1 h2 h3 h4 ih =>
    rename_i a b
    refine .step ih ?_ h3 (by rw [← ha]; exact h4)
    cases e : fidx os' b with
    | none =>
      rw [slo_no (fidx_none.1 e)] at h2
      cases h2
    | some k =>
      rw [(fidx_some e).2.2] at h2
      rw [fidx_ads ha] at e
      rw [(fidx_some e).2.2]
      exact hs k (fidx_some e).1 _ h2 h3
/-- One place made 0. -/
def slL (k t i : Nat) (zs : List Int) : List Int := if i = k ∧ 0 < zs.length then zs.set (t % zs.length) 0 else zs
def oL (os : List Ob) (k t i : Nat) : Ob := ((os.getD i o0).1, slL k t i (os.getD i o0).2.1, true)
def osL (os : List Ob) (k t n : Nat) : List Ob := (List.range n).map (oL os k t)
theorem slL_len : (slL k t i zs).length = zs.length := by unfold slL; split <;> simp
theorem slL_mem (h : x ∈ slL k t i zs) (h0 : x ≠ 0) : x ∈ zs := by
  unfold slL at h
  split at h
  · exact (List.mem_or_eq_of_mem_set h).elim id fun e => absurd e h0
  · exact h
theorem slL_wf (h : ∀ z ∈ zs, WfI z) : ∀ z ∈ slL k t i zs, WfI z := fun z hz => by
  by_cases e : z = 0
  · rw [e]; decide
  · exact h z (slL_mem hz e)
theorem osL_len : (osL os k t n).length = n := by unfold osL; rw [List.length_map, List.length_range]
theorem osL_get (hi : i < n) : (osL os k t n).getD i o0 = oL os k t i := by
  rw [List.getD_eq_getElem?_getD, List.getElem?_eq_getElem (by rw [osL_len]; exact hi)]
  show (osL os k t n)[i]'_ = _
  unfold osL
  rw [List.getElem_map, List.getElem_range]
theorem osL_ads : ads (osL os k t os.length) = ads os := by
  unfold ads osL
  rw [List.map_map]
  refine List.ext_getElem (by simp) fun i h1 h2 => ?_
  rw [List.getElem_map, List.getElem_range, List.getElem_map]
  rw [List.length_map, List.length_range] at h1
  show (os.getD i o0).1 = _
  rw [List.getD_eq_getElem?_getD, List.getElem?_eq_getElem h1]; rfl
/-- What is left of a view. -/
structure Less (V V' : Vi) (k t : Nat) : Prop where
  gs : V'.gs = V.gs
  gl : ∀ x ∈ V'.gl, x ≠ 0 → x ∈ V.gl
  gn : V'.gl.length = V.gl.length
  os : V'.os = osL V.os k t V.os.length
namespace Less
theorem rch (h : Less V V' k t) (hr : Rch (rootsL V'.gl V'.gs) V'.os a) : Rch (rootsL V.gl V.gs) V.os a := by
  rw [h.os] at hr
  refine rch_less (fun x hx => ?_) osL_ads (fun i hi x hx h0 => ?_) hr
  · rw [h.gs] at hx
    obtain ⟨h0, h1⟩ := mem_roots.1 hx
    exact mem_roots.2 ⟨h0, h1.imp (fun e => h.gl x e h0) id⟩
  · rw [osL_get hi] at hx
    exact slL_mem hx h0
theorem sub (h : Less V V' k t) (h1 : RchL V ts) (h2 : RchL V' us) : (∀ x ∈ us, x ∈ ts) ∧ us.length ≤ ts.length := by
  have hs : ∀ x ∈ us, x ∈ ts := fun x hx => (h1.mem x).2 (h.rch ((h2.mem x).1 hx))
  exact ⟨hs, nodup_le (h2.up.imp fun e => Int.ne_of_lt e) hs⟩
theorem white (h : Less V V' k t) (h1 : WhtL V' us) : us = [] := by
  cases us with
  | nil => rfl
  | cons x l =>
    obtain ⟨hr, hm⟩ := (h1.mem x).1 (by simp)
    have ha := hr.in_.2
    unfold mkd at hm
    cases e : fidx V'.os x with
    | none => exact absurd ha (fidx_none.1 e)
    | some j =>
      rw [e] at hm
      have hj := (fidx_some e).1
      rw [h.os] at hm hj
      rw [osL_len] at hj
      have hm : ((osL V.os k t V.os.length).getD j o0).2.2 = false := hm
      rw [osL_get hj] at hm
      cases hm
theorem wf (h : Less V V' k t) (hw : WfV V) : WfV V' := by
  refine ⟨fun x hx => ?_, by rw [h.gs]; exact hw.gs, fun o ho => ?_, fun o ho => ?_⟩
  · by_cases e : x = 0
    · rw [e]; decide
    · exact hw.gl x (h.gl x hx e)
  · rw [h.os] at ho
    obtain ⟨i, hi, rfl⟩ := List.mem_map.1 ho
    exact hw.oa (V.os.getD i o0) (getD_mem o0 (List.mem_range.1 hi))
  · rw [h.os] at ho
    obtain ⟨i, hi, rfl⟩ := List.mem_map.1 ho
    exact slL_wf (hw.sl _ (getD_mem o0 (List.mem_range.1 hi)))
theorem fw (h : Less V V' k t) (hf : Fw V) : Fw V' := by
  refine ⟨by rw [h.gn]; exact hf.gl, by rw [h.gs]; exact hf.gs, by rw [h.os, osL_len]; exact hf.os, by rw [h.gs]; exact hf.st, fun o ho => ?_⟩
  rw [h.os] at ho
  obtain ⟨i, hi, rfl⟩ := List.mem_map.1 ho
  show (slL k t i (V.os.getD i o0).2.1).length ≤ 300
  rw [slL_len]
  exact hf.sl _ (getD_mem o0 (List.mem_range.1 hi))
end Less
end Vw
end Go.Proofs.Ytneibhcigbfigaa
