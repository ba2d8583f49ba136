/- All of a queue, and the statements' own question after a few answers. -/
import Derived.Test.YtclldajbibhcbaaQueueMore
import Derived.Test.YtclldajbibhcbaaRow
namespace Go.Proofs.Ytclldajbibhcbaa
open Go.RowKit Go.Lib Fx Ho
set_option linter.unusedVariables false
namespace Qu
variable {W0 w w' : World} {p : Nat} {v v' : Value} {L L' : List Int} {H' : Home}

set_option maxRecDepth 100000 in
set_option maxHeartbeats 1000000 in
theorem all_any (w : World) (h : IsQ w p v L) (hs : L.length ≤ 1000000) : Calls Try.prog 37 #[.pointer (some ⟨p, 0, none⟩)] w fun e w' => ∃ r, e = .returned r ∧ Below w.heap.size w w' ∧ w'.ownsRow w.heap.size 3 1 r L.length (cells L) := by
  have c0 := h.c0
  obtain ⟨ao, b, off, cap, rfl, hc, hmx, hxx⟩ := h.row
  have hcl : ∀ i, i < L.length → w.cell? ⟨b, off + i, none⟩ = some (.int .i64 (L.getD i 0)) := fun i hi => by
    refine (hc.olds i _ ?_)
    unfold cells
    rw [List.getElem?_map, List.getD_eq_getElem?_getD, List.getElem?_eq_getElem hi]; rfl
  have hcap := hc.le
  clear h hc
  rcases hxx with ⟨rfl, _⟩ | ⟨rfl, rfl⟩
  · have cc := Lib.hid (clone_any (w := w) (g := b) (o := off) (cap := cap) (zs := L) rfl hs hcl)
    clear hcl
    generalize cells L = CT at *
    generalize L.length = l at *
    go_enter Try.func37, Try.ntmps37
    go_wp2_with fail
    with_reducible refine Calls.mono cc.out ?_
    rintro e w2 ⟨r, rfl, hb, ho⟩
    obtain ⟨rs, rc, rfl⟩ := own_slice ho
    replace ho := Lib.hid ho
    clear cc
    go_wp2_with fail
    go_ret
    exact ⟨_, rfl, hb, ho.out⟩
  · have hz : L = [] := List.eq_nil_of_length_eq_zero (by omega)
    subst hz
    clear hcl hcap hs
    simp only [List.length_nil] at *
    have cc := clone_nil w
    go_enter Try.func37, Try.ntmps37
    go_wp2_with fail
    with_reducible refine Calls.mono cc ?_
    rintro e w2 ⟨rfl, rfl⟩
    clear cc
    go_wp2_with fail
    go_ret
    exact ⟨_, rfl, Below.refl _ _, rfl, Or.inl ⟨rfl, rfl⟩⟩
theorem qs_all (h : Qs W0 w p L) (hs : L.length ≤ 1000000) : Calls Try.prog 37 #[.pointer (some ⟨p, 0, none⟩)] w fun e w' => ∃ r, e = .returned r ∧ Below w.heap.size w w' ∧ Ints w' (fun k => w.heap.size ≤ k) r L := by
  obtain ⟨v, h⟩ := h
  exact (all_any w h.q hs).mono fun _ _ ⟨r, he, hb, ho⟩ => ⟨r, he, hb, (ints_of_owns ho).wider (fun k hk _ => (ho.lt k hk).1)⟩
set_option maxRecDepth 100000 in
set_option maxHeartbeats 2000000 in
theorem told_any (w : World) : Calls Try.prog 30 #[] w fun e w' => e = .returned (.bool true) ∧ Below w.heap.size w w' := by
  have cn := qs_new w
  obtain ⟨p, hp⟩ : ∃ p, w.heap.size = p := ⟨_, rfl⟩
  rw [hp] at cn
  clear hp
  go_enter Try.func30, Try.ntmps30
  go_wp2_with fail
  with_reducible refine Calls.mono (cn) ?_
  rintro e w1 ⟨rfl, hs1⟩
  have hA : Below w1.heap.size w1 (w1.alloc (.cells #[.int .i64 1, .int .i64 2, .int .i64 3] 3)) := below_alloc (Below.refl _ _) _
  have cs := qs_put (hs1.below hA) (Rw.ints_lit w1 [1, 2, 3] 3 rfl (by omega) (A := #[.int .i64 1, .int .i64 2, .int .i64 3]) rfl) (by decide)
  clear cn hA hs1
  go_wp2_with fail
  with_reducible refine Calls.mono (cs) ?_
  rintro e w2 ⟨rfl, hs2⟩
  clear cs
  have cs := qs_get (q := 2) (m := 9) (n := 2) hs2 (by decide) (by decide) (by decide) (by decide) (by decide)
  clear hs2
  go_wp2_with fail
  with_reducible refine Calls.mono (cs) ?_
  rintro e w3 ⟨r, rfl, hs3, ho⟩
  have hi := ints_of_owns ho
  obtain ⟨rs, rc, rfl⟩ := own_slice ho
  have hA : Below w3.heap.size w3 (w3.alloc (.cells #[.int .i64 1, .int .i64 2] 3)) := below_alloc (Below.refl _ _) _
  have ci := ints_any (hi.below hA) (Rw.ints_lit w3 [1, 2] 2 rfl (by omega) (A := #[.int .i64 1, .int .i64 2]) rfl)
  have hs4 := Lib.hid (hs3.below hA)
  clear cs hi ho hA hs3
  go_wp2_with fail
  with_reducible refine Calls.mono (ci) ?_
  rintro e w5 ⟨rfl, j, rfl⟩
  have hs5 := Lib.hid (hs4.out.below (below_drewN (Below.refl _ _) j))
  have cl := qs_len hs5.out
  clear ci hs4
  go_wp2_with fail
  with_reducible refine Calls.mono (cl) ?_
  rintro e w6 ⟨rfl, rfl⟩
  have ca := qs_all hs5.out (by decide)
  clear cl
  go_wp2_with fail
  with_reducible refine Calls.mono (ca) ?_
  rintro e w7 ⟨r7, rfl, hb7, hi7⟩
  have hs7 := hs5.out.below hb7
  have hi8 : Ints w7 (fun _ => True) r7 [3] := hi7.wider (fun _ _ _ => trivial)
  obtain ⟨s7, k7, e7, _⟩ := hi7
  replace e7 : r7 = .slice s7 1 k7 := e7
  subst e7
  have hA : Below w7.heap.size w7 (w7.alloc (.cells #[.int .i64 3] 3)) := below_alloc (Below.refl _ _) _
  have ci := ints_any (hi8.below hA) (Rw.ints_lit w7 [3] 1 rfl (by omega) (A := #[.int .i64 3]) rfl)
  have hs8 := Lib.hid (hs7.below hA)
  clear ca hi8 hA hs7 hs5 hb7
  go_wp2_with fail
  with_reducible refine Calls.mono (ci) ?_
  rintro e w9 ⟨rfl, j9, rfl⟩
  have hfin := Lib.hid (hs8.out.below (below_drewN (Below.refl _ _) j9)).bel
  clear ci hs8
  go_wp2_with fail
  go_ret
  exact ⟨rfl, hfin.out⟩
end Qu
end Go.Proofs.Ytclldajbibhcbaa
