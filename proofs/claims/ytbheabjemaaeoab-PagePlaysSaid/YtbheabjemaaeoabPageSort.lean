/- slices.SortFunc at runs of pages: by their first pages. -/
import Derived.Test.YtbheabjemaaeoabSortLay
import Derived.Test.YtbheabjemaaeoabPageFr2
namespace Go.Proofs.Ytbheabjemaaeoab
open Go.RowKit Go.Lib Fx Ho Gr Go.Sort Go.Shelf
set_option linter.unusedVariables false
namespace Pg
variable {w w' W : World} {P b0 z n c i j k N : Nat} {v : Value} {L M : List Rn}
abbrev Pr2 := Int × Int
def cf (x y : Pr2) : Int := Lib.compareInt x.1 y.1
def encR (x : Pr2) : List Value := [.int .i64 x.1, .int .i64 x.2]
theorem lt_eq (x y : Pr2) : ltOf cf x y = decide (x.1 < y.1) := by
  unfold ltOf cf Lib.compareInt
  by_cases h1 : x.1 < y.1
  · simp [h1]
  · by_cases h2 : y.1 < x.1 <;> simp [h1, h2]
theorem swo : SWO (ltOf cf) where
  irrefl x := by rw [lt_eq]; simp
  trans x y z h1 h2 := by rw [lt_eq] at *; simp at *; omega
  ntrans x y z h1 h2 := by rw [lt_eq] at *; simp at *; omega
set_option maxRecDepth 100000 in
theorem nan_any (x : Int) (W : World) : Calls Try.prog 35 #[.int .i64 x] W (Still (.bool false) W) := by
  have e : (x != x) = false := by simp
  go_enter Try.func35, Try.ntmps35
  go_wp2_with fail
  go_ret
  exact ⟨rfl, rfl⟩
set_option maxRecDepth 100000 in
theorem compare_any (x y : Int) (W : World) : Calls Try.prog 27 #[.int .i64 x, .int .i64 y] W (Still (.int .i64 (Lib.compareInt x y)) W) := by
  have c1 := nan_any x W
  have c2 := nan_any y W
  unfold Lib.compareInt
  by_cases h1 : x < y
  · rw [if_pos h1]
    go_enter Try.func27, Try.ntmps27
    go_wp2_with fail
    with_reducible refine Calls.mono (c1) ?_
    rintro e w2 ⟨rfl, rfl⟩
    go_wp2_with fail
    with_reducible refine Calls.mono c2 ?_
    rintro e w2 ⟨rfl, rfl⟩
    clear c1 c2
    go_wp2_with fail
    go_ret
    exact ⟨rfl, rfl⟩
  · rw [if_neg h1]
    by_cases h2 : y < x
    · rw [if_pos (show x > y from h2)]
      go_enter Try.func27, Try.ntmps27
      go_wp2_with fail
      with_reducible refine Calls.mono (c1) ?_
      rintro e w2 ⟨rfl, rfl⟩
      go_wp2_with fail
      with_reducible refine Calls.mono c2 ?_
      rintro e w2 ⟨rfl, rfl⟩
      clear c1 c2
      go_wp2_with fail
      go_ret
      exact ⟨rfl, rfl⟩
    · rw [if_neg (show ¬ x > y from h2)]
      go_enter Try.func27, Try.ntmps27
      go_wp2_with fail
      with_reducible refine Calls.mono (c1) ?_
      rintro e w2 ⟨rfl, rfl⟩
      go_wp2_with fail
      with_reducible refine Calls.mono c2 ?_
      rintro e w2 ⟨rfl, rfl⟩
      clear c1 c2
      go_wp2_with fail
      go_ret
      exact ⟨rfl, rfl⟩
set_option maxRecDepth 100000 in
set_option maxHeartbeats 1000000 in
theorem closure_any (x y : Pr2) (W : World) : Calls Try.prog 26 #[.agg #[.int .i64 x.1, .int .i64 x.2], .agg #[.int .i64 y.1, .int .i64 y.2]] W fun e w' => e = .returned (.int .i64 (cf x y)) ∧ ∃ q os', w' = grow (W.drewN q) os' := by
  have cc := fun W' => compare_any x.1 y.1 W'
  unfold cf
  generalize Lib.compareInt x.1 y.1 = r at *
  go_enter Try.func26, Try.ntmps26
  go_wp2_with fail
  with_reducible refine Calls.mono (cc _) ?_
  rintro e w2 ⟨rfl, rfl⟩
  clear cc
  go_wp2_with fail
  go_ret
  exact ⟨rfl, 0, _, by rw [alloc_eq_grow, alloc_eq_grow, grow_grow]; rfl⟩
theorem wrote_sort {blk off m : Nat} {d d' : Array Pr2} {os : Array Obj} (hH : HoldsK encR 2 w blk off d) (hs : d'.size = d.size) (hb : blk < w.heap.size) : HoldsK encR 2 (sortWorldK encR 2 w blk off m d' os) blk off d' ∧ Wrote (fun k => k = blk) w (fun k => k = blk) (sortWorldK encR 2 w blk off m d' os) := by
  have h1 : HoldsK encR 2 (Sort.ahead w m) blk off d := holdsK_ahead (enc := encR) (k := 2) w m blk off d hH
  have h2 := holdsK_putRowK (enc := encR) (k := 2) (Sort.ahead w m) blk off d d' h1 hs
  have hsz : (putRowK encR 2 (Sort.ahead w m) blk off d').heap.size = w.heap.size := by
    unfold putRowK putRow mapBlock
    simp [Sort.ahead]
  refine ⟨holdsK_grow (enc := encR) (k := 2) _ os blk off d' (by rw [hsz]; exact hb) h2, ⟨rfl, rfl, rfl, ?_, fun k hk hn => ?_, fun k hk => .inl hk⟩⟩
  · show w.heap.size ≤ ((putRowK encR 2 (Sort.ahead w m) blk off d').heap ++ os).size
    rw [Array.size_append, hsz]; omega
  · show ((putRowK encR 2 (Sort.ahead w m) blk off d').heap ++ os)[k]? = w.heap[k]?
    rw [Array.getElem?_append_left (by rw [hsz]; exact hk)]
    unfold putRowK putRow mapBlock
    simp only [Sort.ahead]
    rw [Array.getElem?_modify, if_neg (fun e => hn e.symm)]
/-- slices.SortFunc: the same runs, by their first pages. -/
theorem sort_any {blk off cap : Nat} (d : Array Pr2) (hH : HoldsK encR 2 w blk off d) (hb : blk < w.heap.size) (hs : d.size ≤ 1000000) : Calls Try.prog 25 #[.slice (some ⟨blk, off, none⟩) d.size cap, .func (.func 26) #[] #[]] w fun e w' => e = .returned (.tuple #[]) ∧ ∃ d' : Array Pr2, d'.size = d.size ∧ d'.toList.Perm d.toList ∧ (∀ i j, i < j → j < d.size → d'[i]!.1 ≤ d'[j]!.1) ∧ HoldsK encR 2 w' blk off d' ∧ Wrote (fun k => k = blk) w (fun k => k = blk) w' := by
  have eg : ∀ args w, (callFunc 26 args).run Try.prog w = .ok (.enter 26 args) w := enters_of Try.func26 (by kernel_rfl) rfl
  have hcon := AnyQ.slices_SortFunc Try.sortRun 2 Try.isAgg34 Try.sizeOf34 encR (fun _ => rfl) (fun x v hv => by simp [encR] at hv; rcases hv with rfl | rfl <;> rfl) cf swo 26 #[] blk off cap d w eg (fun _ _ _ _ x y => closure_any x y _) hH hb (by omega)
  change Calls Try.prog 25 _ _ _ at hcon
  refine hcon.mono fun e w' ⟨he, d', m, os, hp, hso, hw⟩ => ?_
  subst hw
  obtain ⟨p1, _, p3⟩ := hp
  obtain ⟨g1, g2⟩ := wrote_sort (m := m) (os := os) hH p1 hb
  refine ⟨he, d', p1, ?_, fun i j hij hj => ?_, g1, g2⟩
  · have e1 : d'.extract 0 d.size = d' := by rw [← p1]; simp
    have e2 : d.extract 0 d.size = d := by simp
    rwa [e1, e2] at p3
  · have := hso i j (Nat.zero_le _) hij hj
    rw [lt_eq, decide_eq_false_iff_not] at this
    omega
end Pg
end Go.Proofs.Ytbheabjemaaeoab
