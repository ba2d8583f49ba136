/- What Copy of a set does and answers: the set has just what the other has, where both are of one size; and what the calls answer of a set that is none. -/
import Derived.Test.YtoamabmnbldgkaaDoorSetAll
import Derived.Laws.CopyOwn
namespace Go.Proofs.YtoamabmnbldgkaaDoor
open Go.RowKit Go.Lib Fx Bm
set_option linter.unusedVariables false

theorem step_copy_row {P : Program} {ops : Array Oper} {o : Oper} {a : Act} {w : World} {K : Act → World → Prop} {Q : Exit → Act → World → Prop} {E : Prop} (hgd : o.guard = none) (d s : Operand) (dT sT : TypeId)
    (ho : o.op = .call { callee := .builtin .copy, args := #[d, s], argTypes := #[dT, sT] }) (elem : TypeId) (hu : P.underlying dT = some (.slice elem)) (hsz : (P.info? elem).map (·.size) = some 1)
    (g g2 m : Nat) (hd : a.eval d = .slice (some ⟨g, 0, none⟩) m m) (hs : a.eval s = .slice (some ⟨g2, 0, none⟩) m m)
    (cur : Array Value) (t : TypeId) (hg : w.heap[g]? = some (.cells cur t (0, 0))) (hcur : cur.size = m) (cs : List Value) (hn : cs.length = m)
    (hsrc : ∀ j v, cs[j]? = some v → w.cell? ⟨g2, j, none⟩ = some v) (h1 : ∀ v ∈ cs, v.oneCell' = true)
    (h : ∀ W, W.heap[g]? = some (.cells cs.toArray t (0, 0)) → w.grownBy W (some g) → K (a.put o.dst (goInt cs.length)) W) :
    if Region.wanted o (yielded ops a.tmps) = true then Oper.wp P o a w K Q else E := by
  have hw : Region.wanted o (yielded ops a.tmps) = true := by simp [Region.wanted, hgd]
  rw [if_pos hw]
  by_cases h0 : m = 0
  · have hrun := run_copy_none (P := P) w dT sT o.type elem (some ⟨g, 0, none⟩) (some ⟨g2, 0, none⟩) m m m m hu hsz (by rw [h0]; rfl)
    have hcs : cs = [] := List.eq_nil_of_length_eq_zero (by omega)
    have hc0 : cur = #[] := Array.eq_empty_of_size_eq_zero (by omega)
    subst hcs hc0
    unfold Oper.wp
    simp [execOp, ho, resolve, invoke, builtin, hd, hs, hrun, Result.andThen]
    exact h w hg ⟨rfl, rfl, rfl, Nat.le_refl _, fun _ _ _ => rfl⟩
  · have hrun := run_copy_row (P := P) w dT sT o.type elem g 0 m m ⟨g2, 0, none⟩ m m cur t cs hu hsz hg (by rw [hn]; exact (Nat.min_self m).symm) (fun j v hj => by
      have := hsrc j v hj
      have e : (⟨g2, 0, none⟩ : Addr).add j = ⟨g2, j, none⟩ := by
        unfold Addr.add
        by_cases hj0 : j = 0
        · rw [if_pos hj0, hj0]
        · rw [if_neg hj0, Nat.zero_add]
      rw [e]; exact this) (by omega) h1
    have hrow : (cur.toList.take 0 ++ cs ++ cur.toList.drop (0 + cs.length)).toArray = cs.toArray := by
      rw [List.drop_eq_nil_of_le (by rw [Array.length_toList]; omega)]
      simp
    rw [hrow] at hrun
    unfold Oper.wp
    simp [execOp, ho, resolve, invoke, builtin, hd, hs, hrun, Result.andThen]
    exact h _ (setRow_heap w g _ _ t _ hg) ⟨rfl, rfl, rfl, by simp [World.setRow], fun k _ hk => setRow_other w g k _ (fun e => hk (by rw [e]))⟩

theorem rowIs_list {w : World} {b : Nat} {t : TypeId} {m : Nat} {f : Nat → Value} (h : w.heap[b]? = some (.cells ((List.range m).map f).toArray t (0, 0))) : w.rowIs b t m f :=
  ⟨_, h, by simp, fun i hi => by simp [hi]⟩
set_option maxRecDepth 100000 in
set_option maxHeartbeats 1000000 in
theorem setcopy_any {p b n p2 b2 : Nat} {M M2 : Nat → Bool} (w : World) (h : IsSet w p b n M) (h2 : IsSet w p2 b2 n M2) : Calls Tryd.prog 18 #[.pointer (some ⟨p, 0, none⟩), .pointer (some ⟨p2, 0, none⟩)] w (Turns (.bool true) w p b n M2) := by
  have c0 := h.c0
  have c1 := h.c1
  have d0 := h2.c0
  have d1 := h2.c1
  obtain ⟨cur, hcur, hsz, _⟩ := h.row
  have hsrc : ∀ j v, ((List.range ((n + 63) / 64)).map fun j => Value.int .u64 (word M2 j : Nat))[j]? = some v → w.cell? ⟨b2, j, none⟩ = some v := fun j v hj => by
    rw [List.getElem?_map] at hj
    by_cases hlt : j < (n + 63) / 64
    · rw [List.getElem?_range hlt] at hj
      simp only [Option.map_some, Option.some.injEq] at hj
      rw [h2.row.cell hlt, hj]
    · rw [List.getElem?_eq_none (by simpa using hlt)] at hj; cases hj
  have hlen : ((List.range ((n + 63) / 64)).map fun j => Value.int .u64 (word M2 j : Nat)).length = (n + 63) / 64 := by simp
  have hone : ∀ v ∈ ((List.range ((n + 63) / 64)).map fun j => Value.int .u64 (word M2 j : Nat)), v.oneCell' = true := fun v hv => by
    obtain ⟨j, _, rfl⟩ := List.mem_map.1 hv
    rfl
  have hfin : Hid (∀ W : World, W.heap[b]? = some (.cells ((List.range ((n + 63) / 64)).map fun j => Value.int .u64 (word M2 j : Nat)).toArray 65 (0, 0)) → w.grownBy W (some b) → w.grownBy W (some b) ∧ IsSet W p b n M2) := fun W h3 hg =>
    ⟨hg, ⟨by rw [hg.block p h.lt (fun e => h.ne (Option.some.inj e))]; exact h.head, rowIs_list h3, h.small, h2.out, h.ne⟩⟩
  have hsrc : Hid _ := hsrc
  have hone : Hid _ := hone
  clear h h2
  generalize (List.range ((n + 63) / 64)).map (fun j => Value.int .u64 (word M2 j : Nat)) = cs at *
  generalize (n + 63) / 64 = m at *
  go_enter Tryd.func18, Tryd.ntmps18
  go_wp2_with fail
  go_quiet (fail)
  go_wp2_with fail
  go_region_law (refine step_copy_row rfl (.tmp 25) (.tmp 29) 62 62 rfl 65 Tryd.underlying62 (by kernel_rfl) b b2 m (by simp [Act.eval]) (by simp [Act.eval]) cur 65 hcur hsz cs hlen hsrc.out hone.out ?_; intro W h3 hg)
  all_goals go_wp2_with fail
  all_goals go_ret
  all_goals exact ⟨rfl, hfin.out _ h3 ⟨hg.os, hg.tape, hg.output, hg.size, hg.block⟩⟩
set_option maxRecDepth 100000 in
set_option maxHeartbeats 1000000 in
theorem setcopy_not {p b n p2 b2 n2 : Nat} {M M2 : Nat → Bool} (w : World) (h : IsSet w p b n M) (h2 : IsSet w p2 b2 n2 M2) (hn : n ≠ n2) : Calls Tryd.prog 18 #[.pointer (some ⟨p, 0, none⟩), .pointer (some ⟨p2, 0, none⟩)] w (Ans (.bool false) w) := by
  have c0 := h.c0
  have d0 := h2.c0
  have he : ((n : Int) == (n2 : Int)) = false := by rw [beq_eq_false_iff_ne]; omega
  have he2 : ((n : Int) != (n2 : Int)) = true := by simp [bne, he]
  clear h h2
  go_enter Tryd.func18, Tryd.ntmps18
  go_wp2_with fail
  go_quiet (fail)
  go_wp2_with fail
  go_ret
  exact ⟨rfl, _, rfl⟩
set_option maxRecDepth 100000 in
theorem setset_nil (i : Int) (w : World) : Calls Tryd.prog 12 #[.pointer none, .int .i64 i] w (Same (.bool false) w) := by
  have c := setmay_nil i w
  go_enter Tryd.func12, Tryd.ntmps12
  go_wp2_with (go_at_call 47; ((with_reducible refine c.mono ?_); rintro e w' ⟨rfl, rfl⟩))
  go_ret
  exact ⟨rfl, rfl⟩
set_option maxRecDepth 100000 in
theorem setclr_nil (i : Int) (w : World) : Calls Tryd.prog 14 #[.pointer none, .int .i64 i] w (Ans (.bool false) w) := by
  have c := sethas_nil i w
  go_enter Tryd.func14, Tryd.ntmps14
  go_wp2_with (go_at_call 19; ((with_reducible refine c.mono ?_); rintro e w' ⟨rfl, k, rfl⟩))
  go_ret
  exact ⟨rfl, _, rfl⟩
set_option maxRecDepth 100000 in
theorem setall_nil (w : World) : Calls Tryd.prog 23 #[.pointer none] w (List_ w []) := by
  have c1 := fun w => setcount_nil w
  have c2 := fun w => setnext_nil 0 true w
  have hmk : ∀ w, (Instr.makeSlice 27 (.int .i64 0) (.int .i64 0)).run Tryd.prog w = .ok (.slice (some ⟨w.heap.size, 0, none⟩) 0 0) (w.alloc (.cells (madeCells #[.int .i64 0] 0) 3)) := run_make_row' (P := Tryd.prog) 27 3 (.int .i64 0) 8 Tryd.underlying27 infoI rfl .i64 .i64 0 (by omega) (by omega)
  go_enter Tryd.func23, Tryd.ntmps23
  go_wp2_with (first | (go_at_call 20; ((with_reducible refine (c1 _).mono ?_); rintro e w' ⟨rfl, rfl⟩)) | (go_at_call 16; ((with_reducible refine (c2 _).mono ?_); rintro e w' ⟨rfl, rfl⟩)))
  refine wp_loop_rounds 1 ?_
  rw [rounds_succ]
  go_wp2_with fail
  go_ret
  exact ⟨_, rfl, below_alloc (Below.refl _ _) _, ⟨rfl, Or.inr ⟨w.heap.size, 0, _, rfl, Nat.le_refl _, heap_alloc_new w _, Nat.zero_le _, by unfold maxLen; omega, by rw [size_madeCells], rfl⟩⟩⟩
end Go.Proofs.YtoamabmnbldgkaaDoor
