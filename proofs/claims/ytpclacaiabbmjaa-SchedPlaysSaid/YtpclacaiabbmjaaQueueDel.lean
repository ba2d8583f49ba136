/- Index, Contains and Delete of package slices as the shelf tells them, at a row; Del of package queue; the document's own Out of a row. -/
import Derived.Test.YtpclacaiabbmjaaQueueMore
import Derived.Test.YtpclacaiabbmjaaRow
import Derived.Test.YtpclacaiabbmjaaShelf
namespace Go.Proofs.Ytpclacaiabbmjaa
open Go.RowKit Go.Lib Fx Ho Rw
set_option linter.unusedVariables false
namespace Qu
variable {w w' : World} {p : Nat} {v : Value} {zs A B : List Int} {H H' S : Home}
theorem index_hit {k : Nat} {x : Int} (h : Ints w S v zs) (hk : k < zs.length) (hx : zs.getD k 0 = x) (hne : ∀ j, j < k → zs.getD j 0 ≠ x) : Calls Try.prog 106 #[v, .int .i64 x] w (Still (.int .i64 k) w) := by
  obtain ⟨sp, cap, rfl, hm, hc⟩ := h
  obtain ⟨b, off, rfl, _, _, _⟩ := hc k hk
  refine (Try.slices_Index_int b off zs.length cap zs x w (Nat.le_refl _) hm (fun j hj => ?_)).mono fun e w' ⟨he, hw⟩ => ⟨?_, hw.symm⟩
  · obtain ⟨b2, off2, e, _, _, k2⟩ := hc j hj
    cases e; exact k2
  · rw [he, idxOf_hit zs zs.length k x hk (Nat.le_refl _) hx hne]
theorem index_miss {x : Int} (h : Ints w S v zs) (hne : ∀ j, j < zs.length → zs.getD j 0 ≠ x) : Calls Try.prog 106 #[v, .int .i64 x] w (Still (.int .i64 (-1)) w) := by
  obtain ⟨sp, cap, rfl, hm, hc⟩ := h
  by_cases h0 : zs = []
  · subst h0
    exact (Try.slices_Index_int_empty sp cap x w).mono fun e w' ⟨he, hw⟩ => ⟨by rw [he]; rfl, hw.symm⟩
  · obtain ⟨b, off, rfl, _, _, _⟩ := hc 0 (List.length_pos_iff.2 h0)
    refine (Try.slices_Index_int b off zs.length cap zs x w (Nat.le_refl _) hm (fun j hj => ?_)).mono fun e w' ⟨he, hw⟩ => ⟨?_, hw.symm⟩
    · obtain ⟨b2, off2, e, _, _, k2⟩ := hc j hj
      cases e; exact k2
    · rw [he, idxOf_miss zs zs.length x hne]
theorem contains_any {x : Int} (h : Ints w S v zs) : Calls Try.prog 72 #[v, .int .i64 x] w (Still (.bool (zs.contains x)) w) := by
  obtain ⟨sp, cap, rfl, hm, hc⟩ := h
  by_cases h0 : zs = []
  · subst h0
    exact (Try.slices_Contains_int_empty sp cap x w).mono fun e w' ⟨he, hw⟩ => ⟨by rw [he]; rfl, hw.symm⟩
  · obtain ⟨b, off, rfl, _, _, _⟩ := hc 0 (List.length_pos_iff.2 h0)
    refine (Try.slices_Contains_int b off zs.length cap zs x w (Nat.le_refl _) hm (fun j hj => ?_)).mono fun e w' ⟨he, hw⟩ => ⟨?_, hw.symm⟩
    · obtain ⟨b2, off2, e, _, _, k2⟩ := hc j hj
      cases e; exact k2
    · rw [he, List.take_length]
end Qu
end Go.Proofs.Ytpclacaiabbmjaa
