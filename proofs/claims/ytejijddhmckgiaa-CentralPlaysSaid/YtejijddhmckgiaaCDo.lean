/- Putting an id behind a row, taking one out: what the two calls of package central's rows do to the blocks. -/
import Derived.Test.YtejijddhmckgiaaCRow
namespace Go.Proofs.Ytejijddhmckgiaa
open Go.RowKit Go.Lib Fx Ho Rw
set_option linter.unusedVariables false
namespace Ce
variable {w w' W : World} {R r N o : Nat} {Q : Rows} {sp : Int → Nat} {H H' : Home} {x y : Int} {P S : List Int}
def PutRow (w : World) (R r : Nat) (Q : Rows) (sp : Int → Nat) (x : Int) (e : Ending) (w' : World) : Prop :=
  ∃ N, e = .returned (.pointer (some ⟨N, 0, none⟩)) ∧ w.heap.size ≤ N ∧ Wrote (RH R Q sp) w (RH R (upd Q r (Q r ++ [x])) (updI sp x N)) w' ∧ IsRows w' R (upd Q r (Q r ++ [x])) (updI sp x N)
def DelRow (w : World) (R r : Nat) (Q : Rows) (sp : Int → Nat) (P S : List Int) (e : Ending) (w' : World) : Prop :=
  e = .returned (.tuple #[]) ∧ Wrote (RH R Q sp) w (RH R (upd Q r (P ++ S)) sp) w' ∧ IsRows w' R (upd Q r (P ++ S)) sp
theorem arr_same {A : Array Value} {i : Nat} {u v : Value} (h : A[i]? = some v) : (A.setIfInBounds i u)[i]? = some u := by
  have hi : i < A.size := by
    rcases Nat.lt_or_ge i A.size with h' | h'
    · exact h'
    · rw [Array.getElem?_eq_none h'] at h; cases h
  rw [Array.getElem?_setIfInBounds_self_of_lt hi]
theorem arr_ne {A : Array Value} {i j : Nat} {u : Value} (hij : i ≠ j) : (A.setIfInBounds i u)[j]? = A[j]? := Array.getElem?_setIfInBounds_ne hij
theorem heap_set_other (w : World) (q j b : Nat) (u : Value) (h : b ≠ q) : (w.setCell ⟨q, j, none⟩ u).heap[b]? = w.heap[b]? := Below.heap_setCell _ _ _ _ h
theorem heap_old (w : World) (ob : Obj) (b : Nat) (h : b < w.heap.size) : (w.alloc ob).heap[b]? = w.heap[b]? := (below_alloc (Below.refl w.heap.size w) ob).block b h
theorem size_set (w : World) (a : Addr) (u : Value) : (w.setCell a u).heap.size = w.heap.size := by simp [World.setCell]
/-- A row that was empty. -/
theorem put_first (h : IsRows w R Q sp) (hr : r < 64) (hno : ∀ s, s < 64 → x ∉ Q s) (he : Q r = []) (hh : W.heap = ((((w.setCell ⟨R, r * 3, none⟩ (.pointer (some ⟨w.heap.size, 0, none⟩))).setCell ⟨R, r * 3 + 1, none⟩ (.pointer (some ⟨w.heap.size, 0, none⟩))).setCell ⟨R, r * 3 + 2, none⟩ (.int .i64 1)).alloc (.cells (spotA x R r none none) 114)).heap) :
    IsRows W R (upd Q r (Q r ++ [x])) (updI sp x w.heap.size) := by
  have hlt := h.ltR
  have hsz : ((((w.setCell ⟨R, r * 3, none⟩ (.pointer (some ⟨w.heap.size, 0, none⟩))).setCell ⟨R, r * 3 + 1, none⟩ (.pointer (some ⟨w.heap.size, 0, none⟩))).setCell ⟨R, r * 3 + 2, none⟩ (.int .i64 1))).heap.size = w.heap.size := by rw [size_set, size_set, size_set]
  refine IsRows.of_heap (w := ((((w.setCell ⟨R, r * 3, none⟩ (.pointer (some ⟨w.heap.size, 0, none⟩))).setCell ⟨R, r * 3 + 1, none⟩ (.pointer (some ⟨w.heap.size, 0, none⟩))).setCell ⟨R, r * 3 + 2, none⟩ (.int .i64 1)).alloc (.cells (spotA x R r none none) 114))) ?_ hh
  refine h.put hr hno (Nat.le_refl _) (fun A hA => ?_) ?_ (fun P0 y e => by rw [he] at e; simp at e) (fun b hb hbR _ => ?_)
  · obtain ⟨A1, k1, k2⟩ := h.rows
    rw [hA] at k1
    cases k1
    obtain ⟨a, b, c⟩ := k2 r hr
    refine ⟨_, by rw [heap_old _ _ _ (by rw [hsz]; exact hlt)]; exact heap_setCell_same _ R _ _ _ _ (heap_setCell_same _ R _ _ _ _ (heap_setCell_same _ R _ _ _ _ hA)), ⟨?_, ?_, ?_⟩, fun j hj => ?_⟩
    · rw [arr_ne (by omega), arr_ne (by omega), arr_same a, upd_same, he]; simp [ptr, updI_same]
    · rw [arr_ne (by omega), arr_same (v := ptr ((Q r).getLast?.map sp)) (by rw [arr_ne (by omega)]; exact b), upd_same, he]; simp [ptr, updI_same]
    · rw [arr_same (v := .int .i64 (Q r).length) (by rw [arr_ne (by omega), arr_ne (by omega)]; exact c), upd_same, he]; rfl
    · rw [arr_ne (hj 2 (by omega)).symm, arr_ne (hj 1 (by omega)).symm, arr_ne (show r * 3 ≠ j by have := hj 0 (by omega); omega)]
  · have := heap_alloc_new ((((w.setCell ⟨R, r * 3, none⟩ (.pointer (some ⟨w.heap.size, 0, none⟩))).setCell ⟨R, r * 3 + 1, none⟩ (.pointer (some ⟨w.heap.size, 0, none⟩))).setCell ⟨R, r * 3 + 2, none⟩ (.int .i64 1))) (.cells (spotA x R r none none) 114)
    rw [hsz] at this
    rw [this, he]; rfl
  · rw [heap_old _ _ _ (by rw [hsz]; exact hb), heap_set_other _ _ _ _ _ hbR, heap_set_other _ _ _ _ _ hbR, heap_set_other _ _ _ _ _ hbR]
/-- A row with a last one. -/
theorem put_behind (h : IsRows w R Q sp) (hr : r < 64) (hno : ∀ s, s < 64 → x ∉ Q s) (he : Q r = P ++ [y]) (hh : W.heap = ((((w.setCell ⟨sp y, 3, none⟩ (.pointer (some ⟨w.heap.size, 0, none⟩))).setCell ⟨R, r * 3 + 1, none⟩ (.pointer (some ⟨w.heap.size, 0, none⟩))).setCell ⟨R, r * 3 + 2, none⟩ (.int .i64 ((Q r).length + 1))).alloc (.cells (spotA x R r (some (sp y)) none) 114)).heap) :
    IsRows W R (upd Q r (Q r ++ [x])) (updI sp x w.heap.size) := by
  have hlt := h.ltR
  have hym : y ∈ Q r := by rw [he]; simp
  have hys := h.lts hr hym
  have hyR := h.off r y hr hym
  have hsz : ((((w.setCell ⟨sp y, 3, none⟩ (.pointer (some ⟨w.heap.size, 0, none⟩))).setCell ⟨R, r * 3 + 1, none⟩ (.pointer (some ⟨w.heap.size, 0, none⟩))).setCell ⟨R, r * 3 + 2, none⟩ (.int .i64 ((Q r).length + 1)))).heap.size = w.heap.size := by rw [size_set, size_set, size_set]
  refine IsRows.of_heap (w := ((((w.setCell ⟨sp y, 3, none⟩ (.pointer (some ⟨w.heap.size, 0, none⟩))).setCell ⟨R, r * 3 + 1, none⟩ (.pointer (some ⟨w.heap.size, 0, none⟩))).setCell ⟨R, r * 3 + 2, none⟩ (.int .i64 ((Q r).length + 1))).alloc (.cells (spotA x R r (some (sp y)) none) 114))) ?_ hh
  have hys2 := h.spot r hr P y [] he
  refine h.put hr hno (Nat.le_refl _) (fun A hA => ?_) ?_ (fun P0 z e => ?_) (fun b hb hbR hbp => ?_)
  · obtain ⟨A1, k1, k2⟩ := h.rows
    rw [hA] at k1
    cases k1
    obtain ⟨a, b, c⟩ := k2 r hr
    refine ⟨_, by rw [heap_old _ _ _ (by rw [hsz]; exact hlt)]; exact heap_setCell_same _ R _ _ _ _ (heap_setCell_same _ R _ _ _ _ ((heap_set_other _ _ _ _ _ hyR.symm).trans hA)), ⟨?_, ?_, ?_⟩, fun j hj => ?_⟩
    · rw [arr_ne (by omega), arr_ne (by omega), a, upd_same, he]
      have hne : ∀ z ∈ Q r, updI sp x w.heap.size z = sp z := fun z hz => updI_ne _ _ (fun e => hno r hr (e ▸ hz))
      cases P with
      | nil => simp [hne y hym]
      | cons q P => simp [hne q (by rw [he]; simp)]
    · rw [arr_ne (by omega), arr_same b, upd_same]; simp [ptr, updI_same]
    · rw [arr_same (v := .int .i64 (Q r).length) (by rw [arr_ne (by omega)]; exact c), upd_same, List.length_append]; rfl
    · rw [arr_ne (hj 2 (by omega)).symm, arr_ne (hj 1 (by omega)).symm]
  · have := heap_alloc_new ((((w.setCell ⟨sp y, 3, none⟩ (.pointer (some ⟨w.heap.size, 0, none⟩))).setCell ⟨R, r * 3 + 1, none⟩ (.pointer (some ⟨w.heap.size, 0, none⟩))).setCell ⟨R, r * 3 + 2, none⟩ (.int .i64 ((Q r).length + 1)))) (.cells (spotA x R r (some (sp y)) none) 114)
    rw [hsz] at this
    rw [this, he]; simp
  · have e3 := List.append_inj' (he.symm.trans e) rfl
    obtain ⟨rfl, e4⟩ := e3
    obtain rfl : y = z := by simpa using e4
    rw [heap_old _ _ _ (by rw [hsz]; exact hys), heap_set_other _ _ _ _ _ hyR, heap_set_other _ _ _ _ _ hyR, heap_setCell_same _ _ _ _ _ _ hys2]
    rfl
  · have := hbp P y he
    rw [heap_old _ _ _ (by rw [hsz]; exact hb), heap_set_other _ _ _ _ _ hbR, heap_set_other _ _ _ _ _ hbR, heap_set_other _ _ _ _ _ this]
theorem rh_put (hr : r < 64) (hno : ∀ s, s < 64 → x ∉ Q s) : ∀ k, RH R (upd Q r (Q r ++ [x])) (updI sp x N) k → RH R Q sp k ∨ k = N := fun k hk => by
  rcases hk with rfl | ⟨s, z, h1, h2, rfl⟩
  · exact .inl (.inl rfl)
  · by_cases e : z = x
    · subst e; rw [updI_same]; exact .inr rfl
    · rw [updI_ne _ _ e]
      by_cases e2 : s = r
      · subst e2; rw [upd_same] at h2
        rcases List.mem_append.1 h2 with h | h
        · exact .inl (.inr ⟨s, z, h1, h, rfl⟩)
        · exact absurd (by simpa using h) e
      · rw [upd_ne _ _ e2] at h2; exact .inl (.inr ⟨s, z, h1, h2, rfl⟩)
theorem rh_del (hr : r < 64) (e : Q r = P ++ x :: S) : ∀ k, RH R (upd Q r (P ++ S)) sp k → RH R Q sp k := fun k hk => by
  rcases hk with rfl | ⟨s, z, h1, h2, rfl⟩
  · exact .inl rfl
  · by_cases e2 : s = r
    · subst e2; rw [upd_same] at h2
      exact .inr ⟨s, z, h1, by rw [e]; rcases List.mem_append.1 h2 with h | h <;> simp [h], rfl⟩
    · rw [upd_ne _ _ e2] at h2; exact .inr ⟨s, z, h1, h2, rfl⟩
set_option maxRecDepth 100000 in
set_option maxHeartbeats 1000000 in
theorem rput_any (h : IsRows w R Q sp) (hr : r < 64) (ho : o = r * 3) (hno : ∀ s, s < 64 → x ∉ Q s) (hl : (Q r).length ≤ 1000000) :
    Calls Try.prog 63 #[.pointer (some ⟨R, o, none⟩), .int .i64 x] w (PutRow w R r Q sp x) := by
  subst ho
  obtain ⟨c0, c1, c2⟩ := h.cells hr
  have f0 := h.fzR (r * 3)
  have f1 := h.fzR (r * 3 + 1)
  have f2 := h.fzR (r * 3 + 2)
  have hlt := h.ltR
  have hRs : ¬ R = w.heap.size := by omega
  have hRs2 : ¬ w.heap.size = R := by omega
  rcases List.eq_nil_or_concat (Q r) with he | ⟨P, y, he⟩
  · rw [he] at c0 c1 c2
    have hfin : Hid (∀ W, W.heap = ((((w.setCell ⟨R, r * 3, none⟩ (.pointer (some ⟨w.heap.size, 0, none⟩))).setCell ⟨R, r * 3 + 1, none⟩ (.pointer (some ⟨w.heap.size, 0, none⟩))).setCell ⟨R, r * 3 + 2, none⟩ (.int .i64 1)).alloc (.cells (spotA x R r none none) 114)).heap → W.os = w.os → W.tape = w.tape → W.output = w.output → PutRow w R r Q sp x (.returned (.pointer (some ⟨w.heap.size, 0, none⟩))) W) := Lib.hid fun W hh a1 a2 a3 => by
      refine ⟨w.heap.size, rfl, Nat.le_refl _, ?_, put_first h hr hno he hh⟩
      refine ⟨a1, a2, a3, ?_, fun k hk hn => ?_, fun k hk => (rh_put hr hno k hk).imp id (fun e => Nat.le_of_eq e.symm)⟩
      · rw [hh, size_new, size_set, size_set, size_set]; omega
      · have hkR : k ≠ R := fun e => hn (.inl e)
        rw [hh, heap_old _ _ _ (by rw [size_set, size_set, size_set]; exact hk), heap_set_other _ _ _ _ _ hkR, heap_set_other _ _ _ _ _ hkR, heap_set_other _ _ _ _ _ hkR]
    simp only [List.head?_nil, List.getLast?_nil, List.length_nil, Option.map_none, ptr] at c0 c1 c2
    clear h hno hl he hr
    go_enter Try.func63, Try.ntmps63
    go_wp2_with fail
    go_ret
    exact hfin.out _ rfl rfl rfl rfl
  · rw [List.concat_eq_append] at he
    have hym : y ∈ Q r := by rw [he]; simp
    have hys := h.lts hr hym
    have hyR := h.off r y hr hym
    obtain ⟨s0, s1, s2, s3⟩ := h.spotC hr (P := P) (S := []) (x := y) he
    have g3 := h.fzS hr (P := P) (S := []) (x := y) he 3
    have hfin : Hid (∀ W, W.heap = ((((w.setCell ⟨sp y, 3, none⟩ (.pointer (some ⟨w.heap.size, 0, none⟩))).setCell ⟨R, r * 3 + 1, none⟩ (.pointer (some ⟨w.heap.size, 0, none⟩))).setCell ⟨R, r * 3 + 2, none⟩ (.int .i64 ((Q r).length + 1))).alloc (.cells (spotA x R r (some (sp y)) none) 114)).heap → W.os = w.os → W.tape = w.tape → W.output = w.output → PutRow w R r Q sp x (.returned (.pointer (some ⟨w.heap.size, 0, none⟩))) W) := Lib.hid fun W hh a1 a2 a3 => by
      refine ⟨w.heap.size, rfl, Nat.le_refl _, ?_, put_behind h hr hno he hh⟩
      refine ⟨a1, a2, a3, ?_, fun k hk hn => ?_, fun k hk => (rh_put hr hno k hk).imp id (fun e => Nat.le_of_eq e.symm)⟩
      · rw [hh, size_new, size_set, size_set, size_set]; omega
      · have hkR : k ≠ R := fun e => hn (.inl e)
        have hky : k ≠ sp y := fun e => hn (.inr ⟨r, y, hr, hym, e.symm⟩)
        rw [hh, heap_old _ _ _ (by rw [size_set, size_set, size_set]; exact hk), heap_set_other _ _ _ _ _ hkR, heap_set_other _ _ _ _ _ hkR, heap_set_other _ _ _ _ _ hky]
    have e1 : (Q r).getLast? = some y := by rw [he]; simp
    have hn0 : (0 : Int) ≤ ((Q r).length : Int) := by omega
    have hn1 : ((Q r).length : Int) ≤ 1000000 := by omega
    have hyR2 : ¬ R = sp y := fun e => hyR e.symm
    replace hyR : ¬ sp y = R := hyR
    have hys2 : ¬ sp y = w.heap.size := by omega
    have hys3 : ¬ w.heap.size = sp y := by omega
    rw [e1] at c1
    simp only [Option.map_some, ptr] at c1
    clear h hno hl he e1 hym c0 s0 s1 s2 hr
    generalize (Q r).length = n at *
    generalize sp y = b at *
    go_enter Try.func63, Try.ntmps63
    go_wp2_with fail
    go_ret
    exact hfin.out _ rfl rfl rfl rfl
end Ce
end Go.Proofs.Ytejijddhmckgiaa
