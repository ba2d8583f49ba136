/- ViewClosed: its closure, and all that stands behind its start. -/
import Derived.Test.YtneibhcigbfigaaVwOwn
import Derived.Test.YtneibhcigbfigaaVwHas
namespace Go.Proofs.Ytneibhcigbfigaa
open Go.RowKit Go.Lib Fx Ho Gr
set_option linter.unusedVariables false
set_option linter.unusedSimpArgs false
namespace Vw
variable {w w' W : World} {va vb vr vg vs vo : Value} {ts us rs : List Int} {p p3 p4 : Nat} {V : Vi} {x : Int}
set_option maxRecDepth 100000 in
set_option maxHeartbeats 4000000 in
theorem ok_any (ha : Ints w Any va ts) (hb : Ints w Any vb us) (c3 : w.cell? ⟨p3, 0, none⟩ = some va) (c4 : w.cell? ⟨p4, 0, none⟩ = some vb) (hx : x = 0 ∨ (decide (x ∈ ts) != decide (x ∈ us)) = true) : Calls Try.prog 37 #[.int .i64 x, .pointer (some ⟨p3, 0, none⟩), .pointer (some ⟨p4, 0, none⟩)] w (AnsB (.bool true) w) := by
  by_cases h0 : x = 0
  · have e0 : (x == 0) = true := by rw [h0]; rfl
    clear ha hb c3 c4 hx
    go_enter Try.func37, Try.ntmps37
    go_upto_region 1 with fail
    go_big_quiet (fail)
    go_wp2_with fail
    go_ret
    exact ⟨rfl, below_drewN (Below.refl _ _) _⟩
  · have e0 : (x == 0) = false := beq_eq_false_iff_ne.2 h0
    have hx := hx.resolve_left h0
    have hbd := (Below.refl w.heap.size w).drew
    obtain ⟨sa, ca, rfl, -⟩ := id ha
    obtain ⟨sb, cb, rfl, -⟩ := id hb
    have k1 := has_any x (ha.below hbd)
    have k2 := has_any x (hb.below hbd)
    obtain ⟨b1, e1⟩ : ∃ b, decide (x ∈ ts) = b := ⟨_, rfl⟩
    obtain ⟨b2, e2⟩ : ∃ b, decide (x ∈ us) = b := ⟨_, rfl⟩
    rw [e1] at k1 hx
    rw [e2] at k2 hx
    replace hbd := Lib.hid hbd
    clear ha hb e1 e2
    cases b1 with
    | false =>
      cases b2 with
      | false => cases hx
      | true =>
        go_enter Try.func37, Try.ntmps37
        go_upto_region 1 with fail
        go_region_with (first | (go_at_call 38; (first | ((with_reducible refine Calls.mono k1 ?_); rintro e w5 ⟨rfl, rfl⟩) | ((with_reducible refine Calls.mono k2 ?_); rintro e w5 ⟨rfl, rfl⟩))))
        all_goals
          go_wp2_with fail
          go_ret
          exact ⟨rfl, hbd.out⟩
    | true =>
      cases b2 with
      | true => cases hx
      | false =>
        go_enter Try.func37, Try.ntmps37
        go_upto_region 1 with fail
        go_region_with (first | (go_at_call 38; (first | ((with_reducible refine Calls.mono k1 ?_); rintro e w5 ⟨rfl, rfl⟩) | ((with_reducible refine Calls.mono k2 ?_); rintro e w5 ⟨rfl, rfl⟩))))
        all_goals
          go_wp2_with fail
          go_ret
          exact ⟨rfl, hbd.out⟩
theorem below_step {w0 : World} (h : Below w0.heap.size w0 w) (hb : Below w.heap.size w w') : Below w0.heap.size w0 w' := h.trans (hb.mono h.size)
/-- What stands all along. -/
structure Kz (Wb W : World) (V : Vi) (vg vs vo va vb vr : Value) (ts us rs : List Int) (p p3 p4 : Nat) : Prop where
  bel : Below Wb.heap.size Wb W
  v : IsV W V vg vs vo
  box : Box9 p V vg vs vo W
  c3 : W.cell? ⟨p3, 0, none⟩ = some va
  c4 : W.cell? ⟨p4, 0, none⟩ = some vb
  a : Ints W Any va ts
  b : Ints W Any vb us
  r : Ints W Any vr rs
theorem Kz.below {Wb : World} (h : Kz Wb W V vg vs vo va vb vr ts us rs p p3 p4) (hb : Below W.heap.size W w') : Kz Wb w' V vg vs vo va vb vr ts us rs p p3 p4 :=
  ⟨h.bel.trans (hb.mono h.bel.size), h.v.below hb, h.box.below hb, cell_then hb h.c3, cell_then hb h.c4, h.a.below hb, h.b.below hb, h.r.below hb⟩
end Vw
end Go.Proofs.Ytneibhcigbfigaa
