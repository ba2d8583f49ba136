/- All of a queue, and the statements' own question after a few answers. -/
import Derived.Test.YtpclacaiabbmjaaQueueMore
import Derived.Test.YtpclacaiabbmjaaRow
namespace Go.Proofs.Ytpclacaiabbmjaa
open Go.RowKit Go.Lib Fx Ho
set_option linter.unusedVariables false
namespace Qu
variable {W0 w w' : World} {p : Nat} {v v' : Value} {L L' : List Int} {H' : Home}

set_option maxRecDepth 100000 in
set_option maxHeartbeats 1000000 in
theorem all_any (w : World) (h : IsQ w p v L) (hs : L.length ≤ 1000000) : Calls Try.prog 75 #[.pointer (some ⟨p, 0, none⟩)] w fun e w' => ∃ r, e = .returned r ∧ Below w.heap.size w w' ∧ w'.ownsRow w.heap.size 3 1 r L.length (cells L) := by
  have c0 := h.c0
  obtain ⟨ao, b, off, cap, rfl, hc, hmx, hxx⟩ := h.row
  have hcl : ∀ i, i < L.length → w.cell? ⟨b, off + i, none⟩ = some (.int .i64 (L.getD i 0)) := fun i hi => by
    refine (hc.olds i _ ?_)
    unfold cells
    rw [List.getElem?_map, List.getD_eq_getElem?_getD, List.getElem?_eq_getElem hi]; rfl
  have hcap := hc.le
  clear h hc
  rcases hxx with ⟨rfl, _⟩ | ⟨rfl, rfl⟩
  · have cc := Lib.hid (clone_any (w := w) (g := b) (o := off) (cap := cap) (zs := L) rfl hs hcl)
    clear hcl
    generalize cells L = CT at *
    generalize L.length = l at *
    go_enter Try.func75, Try.ntmps75
    go_wp2_with fail
    with_reducible refine Calls.mono cc.out ?_
    rintro e w2 ⟨r, rfl, hb, ho⟩
    obtain ⟨rs, rc, rfl⟩ := own_slice ho
    replace ho := Lib.hid ho
    clear cc
    go_wp2_with fail
    go_ret
    exact ⟨_, rfl, hb, ho.out⟩
  · have hz : L = [] := List.eq_nil_of_length_eq_zero (by omega)
    subst hz
    clear hcl hcap hs
    simp only [List.length_nil] at *
    have cc := clone_nil w
    go_enter Try.func75, Try.ntmps75
    go_wp2_with fail
    with_reducible refine Calls.mono cc ?_
    rintro e w2 ⟨rfl, rfl⟩
    clear cc
    go_wp2_with fail
    go_ret
    exact ⟨_, rfl, Below.refl _ _, rfl, Or.inl ⟨rfl, rfl⟩⟩
theorem qs_all (h : Qs W0 w p L) (hs : L.length ≤ 1000000) : Calls Try.prog 75 #[.pointer (some ⟨p, 0, none⟩)] w fun e w' => ∃ r, e = .returned r ∧ Below w.heap.size w w' ∧ Ints w' (fun k => w.heap.size ≤ k) r L := by
  obtain ⟨v, h⟩ := h
  exact (all_any w h.q hs).mono fun _ _ ⟨r, he, hb, ho⟩ => ⟨r, he, hb, (ints_of_owns ho).wider (fun k hk _ => (ho.lt k hk).1)⟩
end Qu
end Go.Proofs.Ytpclacaiabbmjaa
