/- treadmilllaw30.told: does the program tell what the document says of a few? -/
import Derived.Test.YtneibhcigbfigaaVwAu5
namespace Go.Proofs.Ytneibhcigbfigaa
open Go.RowKit Go.Lib Fx Ho Gr
set_option linter.unusedVariables false
set_option linter.unusedSimpArgs false
namespace Vw
variable {w w' W : World} {vg : Value} {ph : Int} {gl : List Int}
theorem vn_is (hg : Ints W Any vg gl) (hw : ∀ x ∈ gl, WfI x) : IsV W (Vn ph gl) vg (.slice none 0 0) (.slice none 0 0) :=
  ⟨hg, ⟨none, 0, rfl, Nat.zero_le _, fun i hi => absurd hi (Nat.not_lt_zero i)⟩, ⟨none, 0, rfl, Nat.zero_le _, fun i hi => absurd hi (Nat.not_lt_zero i)⟩, ⟨hw, fun g hg => (by cases hg), fun o ho => (by cases ho), fun o ho => (by cases ho)⟩⟩
theorem vn_few (hl : gl.length ≤ 40) : Fw (Vn ph gl) := ⟨hl, Nat.zero_le _, Nat.zero_le _, fun g hg => (by cases hg), fun o ho => (by cases ho)⟩
theorem vn_check (hg : Ints W Any vg gl) (hw : ∀ x ∈ gl, WfI x) (hl : gl.length ≤ 40) (ps : Int) : Calls Try.prog 13 #[.agg #[.int .i64 ph, .int .i64 0, .int .i64 0, vg, .slice none 0 0, .slice none 0 0, .int .i64 0, .int .i64 0, .int .i64 0], .int .i64 ps] W (AnsB (.int .i64 ((brkN (Vn ph gl) ps 8).headD 0)) W) :=
  check_any (V := Vn ph gl) (vn_is hg hw) (vn_few hl) (fun g hg => (by cases hg)) ps
theorem txt1 : txtR 1 = ⟨#[108, 111, 115, 116]⟩ := by unfold txtR; rw [if_pos (by omega)]; rfl
theorem txt8 : txtR 8 = ⟨#[109, 97, 114, 107, 101, 100]⟩ := by unfold txtR; rw [if_pos (by omega)]; rfl
theorem txt9 : txtR 9 = ⟨#[]⟩ := by unfold txtR; rw [if_neg (by omega)]
set_option maxRecDepth 100000 in
set_option maxHeartbeats 4000000 in
theorem told30_any (w : World) : Calls Try.prog 15 #[] w (AnsB (.bool true) w) := by
  have cA := fun W => vn_check (W := W) (ph := 0) (ints_nil W Any) (fun x hx => by cases hx) (by decide) 4
  have cC := fun W => vn_check (W := W) (ph := 9) (ints_nil W Any) (fun x hx => by cases hx) (by decide) 4
  have cB := fun W => vn_check (W := W.alloc (.cells #[.int .i64 64] 3)) (vg := .slice (some ⟨W.heap.size, 0, none⟩) 1 1) (ph := 0) (gl := [64]) (ints_lit (heap_alloc_new W (.cells (cells [64]).toArray 3)) rfl (by decide)) (fun x hx => by rw [List.mem_singleton.1 hx]; decide) (by decide) 4
  have cT1 := fun W => text_any 1 W
  have cT8 := fun W => text_any 8 W
  have cT9 := fun W => text_any 9 W
  rw [txt1] at cT1
  rw [txt8] at cT8
  rw [txt9] at cT9
  rw [chk0] at cA
  rw [chk64] at cB
  rw [chk9] at cC
  have cA := cA w
  go_enter Try.func15, Try.ntmps15
  go_wp2_with fail
  with_reducible refine Calls.mono cA ?_
  rintro e w1 ⟨rfl, hb1⟩
  replace hb1 := Lib.hid hb1
  have cB := cB w1
  clear cA
  go_wp2_with fail
  with_reducible refine Calls.mono cB ?_
  rintro e w2 ⟨rfl, hb⟩
  have hb2 := Lib.hid (hb1.out.trans (((below_alloc (Below.refl _ w1) (.cells #[.int .i64 64] 3)).trans (hb.mono (below_alloc (Below.refl _ w1) (.cells #[.int .i64 64] 3)).size)).mono hb1.out.size))
  have cC := cC w2
  clear cB hb hb1
  go_wp2_with fail
  with_reducible refine Calls.mono cC ?_
  rintro e w3 ⟨rfl, hb⟩
  have hb3 := Lib.hid (hb2.out.trans (hb.mono hb2.out.size))
  have c1 := cT1 w3
  clear cC hb hb2 cT1
  go_wp2_with fail
  with_reducible refine Calls.mono c1 ?_
  rintro e w4 ⟨rfl, hb⟩
  have hb4 := Lib.hid (hb3.out.trans (hb.mono hb3.out.size))
  have c1 := cT8 w4
  clear hb hb3 cT8
  go_wp2_with fail
  with_reducible refine Calls.mono c1 ?_
  rintro e w5 ⟨rfl, hb⟩
  have hb5 := Lib.hid (hb4.out.trans (hb.mono hb4.out.size))
  have c1 := cT9 w5
  clear hb hb4 cT9
  go_wp2_with fail
  with_reducible refine Calls.mono c1 ?_
  rintro e w6 ⟨rfl, hb⟩
  have hb6 := Lib.hid (hb5.out.trans (hb.mono hb5.out.size))
  clear hb hb5
  go_wp2_with fail
  go_ret
  exact ⟨rfl, hb6.out⟩
end Vw
end Go.Proofs.Ytneibhcigbfigaa
