/- What the document's own Put makes of an empty list and of a list with the number; what its Out makes of a list. -/
import Derived.Test.YtoamabmnbldgkaaDoorPlaysPut
namespace Go.Proofs.YtoamabmnbldgkaaDoor
open Go.RowKit Go.Lib Fx Bm
set_option linter.unusedVariables false

theorem step_append_none {P : Program} {w : World} {ops : Array Oper} {o : Oper} {a : Act} {K : Act → World → Prop} {Q : Exit → Act → World → Prop} {E : Prop} (hgd : o.guard = none) (s x : Operand) (t : TypeId)
    (ho : o.op = .call { callee := .builtin .append, args := #[s, x], argTypes := #[t, t] })
    (base : Nat) (e : TypeId) (i : TypeInfo) (size : Nat) (ht : P.underlying t = some (.slice e)) (hi : P.info? e = some i)
    (v : Value) (n : Nat) (xs : List Value) (hs : a.eval s = v) (hown : w.ownsRow base e size v n xs) (hx : a.eval x = .slice none 0 0)
    (h : K (a.put o.dst v) w) :
    if Region.wanted o (yielded ops a.tmps) = true then Oper.wp P o a w K Q else E := by
  have hw : Region.wanted o (yielded ops a.tmps) = true := by simp [Region.wanted, hgd]
  rw [if_pos hw]
  have hrun := run_append_owned_none (P := P) (w := w) base t o.type e i size ht hi v n xs hown
  unfold Oper.wp
  simp [execOp, ho, resolve, invoke, builtin, hs, hx, hrun, Result.andThen]
  exact h

set_option maxRecDepth 100000 in
set_option maxHeartbeats 1000000 in
theorem rput_here {w : World} {g cap m P : Nat} {zs : List Nat} (x : Nat) (hPm : P < m) (hm : m ≤ 1000) (hlow : ∀ i, i < P → zs.getD i 0 < x) (hx : zs.getD P 0 = x)
    (hcell : ∀ i, i < m → w.cell? ⟨g, i, none⟩ = some (.int .i64 (zs.getD i 0 : Nat))) :
    Calls Tryd.prog 13 #[.slice (some ⟨g, 0, none⟩) m cap, .int .i64 x] w (Same (.slice (some ⟨g, 0, none⟩) m cap) w) := by
  replace hlow : Hid _ := hlow
  replace hcell : Hid _ := hcell
  replace hx : Hid _ := hx
  go_enter Tryd.func13, Tryd.ntmps13
  go_wp2_with fail
  go_loopw [5] (fun u wr => ∃ i : Nat, u = .int .i64 i ∧ i ≤ P ∧ wr = w) (fun u _ => (P - (intOf u).toNat))
  case atStart => exact ⟨0, rfl, by omega, rfl⟩
  case round =>
    obtain ⟨i, rfl, i1, rfl⟩ := hrel
    have i2 : (i : Int) < (m : Int) := by omega
    have k1 := hcell.out i (by omega)
    by_cases hiP : i < P
    · have k2 := hlow.out i hiP
      generalize zs.getD i 0 = y at *
      clear hcell hlow hx
      go_wp2_with fail
      go_roundw
      case rel => exact ⟨i + 1, by go_num, by omega, by first | rfl | trivial⟩
      case measure => simp [intOf]; omega
    · obtain rfl : P = i := by omega
      rw [hx.out] at k1
      clear hcell hlow hx
      go_wp2_with fail
      go_ret
      exact ⟨rfl, rfl⟩

set_option maxRecDepth 100000 in
set_option maxHeartbeats 1000000 in
theorem rput_nil {w : World} (x : Nat) :
    Calls Tryd.prog 13 #[.slice none 0 0, .int .i64 x] w fun e w' => ∃ v', e = .returned v' ∧ Below w.heap.size w w' ∧ w'.ownsRow w.heap.size 3 1 v' 1 [.int .i64 x] := by
  obtain ⟨i0, hi, hz0, hz1, hz2⟩ := info_parts infoI
  go_enter Tryd.func13, Tryd.ntmps13
  go_wp2_with fail
  go_loopw [5] (fun u wr => u = .int .i64 0 ∧ wr = w) (fun _ _ => 0)
  case atStart => exact ⟨rfl, rfl⟩
  case round =>
    obtain ⟨rfl, rfl⟩ := hrel
    have e1 : (wr.alloc (.cells #[] 3)).heap[wr.heap.size]? = some (.cells #[] 3 (0, 0)) := heap_alloc_new _ _
    have e2 : ((wr.alloc (.cells #[] 3)).alloc (.cells #[.int .i64 x] 3)).heap[wr.heap.size]? = some (.cells #[] 3 (0, 0)) := (heap_alloc_old _ _ (by show _ < (wr.heap.push _).size; rw [Array.size_push]; omega)).trans e1
    have e3 : ((wr.alloc (.cells #[.int .i64 x] 3)).alloc (.cells #[] 3)).heap[wr.heap.size + 1]? = some (.cells #[] 3 (0, 0)) := heap_alloc2_new _ _ _
    have x2 : ((wr.alloc (.cells #[] 3)).alloc (.cells #[.int .i64 x] 3)).heap[wr.heap.size + 1]? = some (.cells #[.int .i64 x] 3 (0, 0)) := heap_alloc2_new _ _ _
    have x3 : ((wr.alloc (.cells #[.int .i64 x] 3)).alloc (.cells #[] 3)).heap[wr.heap.size]? = some (.cells #[.int .i64 x] 3 (0, 0)) := (heap_alloc_old _ _ (by show _ < (wr.heap.push _).size; rw [Array.size_push]; omega)).trans (heap_alloc_new _ _)
    have lt2 : wr.heap.size + 1 < ((wr.alloc (.cells #[] 3)).alloc (.cells #[.int .i64 x] 3)).heap.size := by show _ < ((wr.heap.push _).push _).size; rw [Array.size_push, Array.size_push]; omega
    have lt3 : wr.heap.size < ((wr.alloc (.cells #[.int .i64 x] 3)).alloc (.cells #[] 3)).heap.size := by show _ < ((wr.heap.push _).push _).size; rw [Array.size_push, Array.size_push]; omega
    have hfin : ∀ W v, Below wr.heap.size wr W → W.ownsRow wr.heap.size 3 1 v (0 + 1) ([] ++ [.int .i64 x]) → ∃ v', Ending.returned v = .returned v' ∧ Below wr.heap.size wr W ∧ W.ownsRow wr.heap.size 3 1 v' 1 [.int .i64 x] := fun W v hB ho => ⟨v, rfl, hB, ho⟩
    replace hfin : Hid _ := hfin
    replace e1 : Hid _ := e1
    replace e2 : Hid _ := e2
    replace e3 : Hid _ := e3
    replace x2 : Hid _ := x2
    replace x3 : Hid _ := x3
    go_wp2_with fail
    go_region_law (first
      | (refine step_append_none rfl (.tmp 33) (.tmp 36) 27 rfl wr.heap.size 3 i0 1 Tryd.underlying27 hi _ 0 [] rfl (own_empty (by first | exact e1.out | exact e2.out | exact e3.out) (by omega)) rfl ?_)
      | (refine step_append_own rfl (.tmp 37) (.tmp 39) 27 rfl wr.heap.size 3 i0 (.int .i64 0) 1 8 Tryd.underlying27 hi hz0 hz1 hz2 rfl (by decide) _ _ _ rfl (own_empty (by first | exact e1.out | exact e2.out | exact e3.out) (by omega)) _ 1 1 [.int .i64 x] rfl rfl (cell_of_block (by first | exact x2.out | exact x3.out)) (ones [x]) (by unfold maxLen; omega) (by omega) (Below.size (B := wr.heap.size) (by (repeat (first | assumption | exact Below.refl _ _ | refine below_drew' ?_ | refine below_drewN ?_ _ | refine below_alloc ?_ _)))) ?_
         intro v2 w2 hown2 hgrow2 hnil2
         have hb2 : Below wr.heap.size wr w2 := Below.grown (by (repeat (first | assumption | exact Below.refl _ _ | refine below_drew' ?_ | refine below_drewN ?_ _ | refine below_alloc ?_ _))) hgrow2 (Below.size (B := wr.heap.size) (by (repeat (first | assumption | exact Below.refl _ _ | refine below_drew' ?_ | refine below_drewN ?_ _ | refine below_alloc ?_ _)))) (fun k hk => by first | exact Nat.le_of_eq (Option.some.inj (show some wr.heap.size = some k from hk)) | exact (Option.some.inj (show some (wr.heap.size + 1) = some k from hk)) ▸ Nat.le_succ _))
      | (refine step_append_none rfl (.tmp 40) (.tmp 43) 27 rfl wr.heap.size 3 i0 1 Tryd.underlying27 hi _ _ _ rfl (by exact hown2) rfl ?_))
    all_goals go_wp2_with fail
    all_goals go_ret
    all_goals exact hfin.out _ _ hb2 hown2
set_option maxRecDepth 100000 in
set_option maxHeartbeats 1000000 in
theorem rout_not {w : World} {lo : Nat} {v : Value} {zs : List Int} (x : Int) (h : IntsAt w lo v zs) (hno : x ∉ zs) : Calls Tryd.prog 15 #[v, .int .i64 x] w (Same (.tuple #[v, .bool false]) w) := by
  obtain ⟨sp, cap, rfl, hm, hc⟩ := h
  obtain ⟨m, hme⟩ : ∃ m, zs.length = m := ⟨_, rfl⟩
  have hout : Hid (∀ i, i < m → zs.getD i 0 ≠ x) := fun i hi e => hno (by
    rw [← e, List.getD_eq_getElem?_getD, List.getElem?_eq_getElem (by omega)]; exact List.getElem_mem _)
  rw [hme] at hm hc ⊢
  have hc : Hid _ := hc
  clear hme hno
  go_enter Tryd.func15, Tryd.ntmps15
  go_wp2_with fail
  go_loopw [6] (fun u wr => ∃ i : Nat, u = .int .i64 i ∧ i ≤ m ∧ wr = w) (fun u _ => (m - (intOf u).toNat))
  case atStart => exact ⟨0, rfl, by omega, rfl⟩
  case round =>
    obtain ⟨i, rfl, i1, rfl⟩ := hrel
    by_cases hi : i < m
    · obtain ⟨b1, o1, rfl, _, _, k1⟩ := hc.out i hi
      have i2 : (i : Int) < (m : Int) := by omega
      have hx2 : (zs.getD i 0 == x) = false := by rw [beq_eq_false_iff_ne]; exact hout.out i hi
      generalize zs.getD i 0 = y at *
      clear hout
      go_wp2_with fail
      go_roundw
      case rel => exact ⟨i + 1, by go_num, by omega, by first | rfl | trivial⟩
      case measure => simp [intOf]; omega
    · obtain rfl : m = i := by omega
      go_wp2_with fail
      go_ret2
      exact ⟨rfl, rfl⟩
set_option maxRecDepth 100000 in
set_option maxHeartbeats 2000000 in
theorem rout_some {w : World} {g cap m P : Nat} {zs : List Nat} {A B : List Nat} (x : Nat) (hzs : zs = A ++ (x :: B)) (hA : ∀ a ∈ A, a < x) (hl : zs.length = m) (hP : A.length = P) (hm : m ≤ 1000) (hgw : g < w.heap.size)
    (hcell : ∀ i, i < m → w.cell? ⟨g, i, none⟩ = some (.int .i64 (zs.getD i 0 : Nat))) (hcap : m ≤ cap) :
    Calls Tryd.prog 15 #[.slice (some ⟨g, 0, none⟩) m cap, .int .i64 x] w fun e w' => ∃ v', e = .returned (.tuple #[v', .bool true]) ∧ Below w.heap.size w w' ∧ w'.ownsRow w.heap.size 3 1 v' (P + (m - (P + 1))) (cellsOf A ++ cellsOf B) := by
  obtain ⟨Q, hQ⟩ : ∃ Q : Nat, Q = P + 1 := ⟨_, rfl⟩
  rw [← hQ]
  have hml : m = Q + B.length := by rw [hzs, List.length_append, List.length_cons] at hl; omega
  have hBl : B.length = m - Q := by omega
  have hlow : Hid (∀ i, i < P → ((zs.getD i 0 : Int) == (x : Int)) = false) := fun i hi => by
    have : zs.getD i 0 < x := by
      rw [hzs, List.getD_eq_getElem?_getD, List.getElem?_append_left (by omega), List.getElem?_eq_getElem (by omega)]
      exact hA _ (List.getElem_mem _)
    rw [beq_eq_false_iff_ne]; omega
  have hat : zs.getD P 0 = x := by
    rw [hzs, List.getD_eq_getElem?_getD, List.getElem?_append_right (by omega), show P - A.length = 0 by omega]; rfl
  have newsA : Hid (∀ W, Below w.heap.size w W → ∀ j u, (cellsOf A)[j]? = some u → W.cell? ((⟨g, 0, none⟩ : Addr).add j) = some u) := fun W hW j u hj => by
    have hj2 : j < A.length := by
      rcases Nat.lt_or_ge j A.length with h | h
      · exact h
      · rw [List.getElem?_eq_none (by unfold cellsOf; rw [List.length_map]; exact h)] at hj; cases hj
    rw [addr_add0, Nat.zero_add, hW.cell hgw, hcell j (by omega), ← hj]
    unfold cellsOf
    rw [List.getElem?_map, List.getElem?_eq_getElem hj2, hzs, List.getD_eq_getElem?_getD, List.getElem?_append_left hj2, List.getElem?_eq_getElem hj2]
    rfl
  obtain ⟨AD, hAD, hAD2⟩ : ∃ AD : Addr, (if cap = Q then some (⟨g, 0, none⟩ : Addr) else some ⟨g, Q, none⟩) = some AD ∧ (Q < cap → AD = ⟨g, Q, none⟩) := by
    by_cases h : cap = Q
    · exact ⟨_, if_pos h, fun h2 => by omega⟩
    · exact ⟨_, if_neg h, fun _ => rfl⟩
  have newsB : Hid (∀ W, Below w.heap.size w W → ∀ j u, (cellsOf B)[j]? = some u → W.cell? (AD.add j) = some u) := fun W hW j u hj => by
    have hj2 : j < B.length := by
      rcases Nat.lt_or_ge j B.length with h | h
      · exact h
      · rw [List.getElem?_eq_none (by unfold cellsOf; rw [List.length_map]; exact h)] at hj; cases hj
    rw [hAD2 (by omega), addr_add0, hW.cell hgw, hcell (Q + j) (by omega), ← hj]
    unfold cellsOf
    rw [List.getElem?_map, List.getElem?_eq_getElem hj2, hzs, List.getD_eq_getElem?_getD, List.getElem?_append_right (by omega), show Q + j - A.length = j + 1 by omega, List.getElem?_cons_succ, List.getElem?_eq_getElem hj2]
    rfl
  have la : (cellsOf A).length = P * 1 := by unfold cellsOf; rw [List.length_map]; omega
  have lb : (cellsOf B).length = (m - Q) * 1 := by unfold cellsOf; rw [List.length_map]; omega
  have oa := ones A
  have ob := ones B
  replace oa : Hid _ := oa
  replace ob : Hid _ := ob
  replace hcell : Hid _ := hcell
  replace hat : Hid _ := hat
  have hPm : P < m := by omega
  obtain ⟨i0, hi, hz0, hz1, hz2⟩ := info_parts infoI
  clear hzs hA hAD2 hl hP hBl hml
  generalize cellsOf A = CA at *
  generalize cellsOf B = CB at *
  go_enter Tryd.func15, Tryd.ntmps15
  go_wp2_with fail
  go_loopw [6] (fun u wr => ∃ i : Nat, u = .int .i64 i ∧ i ≤ P ∧ wr = w) (fun u _ => (P - (intOf u).toNat))
  case atStart => exact ⟨0, rfl, by omega, rfl⟩
  case round =>
    obtain ⟨i, rfl, i1, rfl⟩ := hrel
    have k1 := hcell.out i (by omega)
    have i2 : (i : Int) < (m : Int) := by omega
    by_cases hiP : i < P
    · have k2 := hlow.out i hiP
      generalize zs.getD i 0 = y at *
      clear hat
      go_wp2_with fail
      go_roundw
      case rel => exact ⟨i + 1, by go_num, by omega, by first | rfl | trivial⟩
      case measure => simp [intOf]; omega
    · obtain rfl : P = i := by omega
      rw [hat.out] at k1
      have c0 : (P : Int) ≤ (cap : Int) := by omega
      have c1 : (0 : Int) ≤ (P : Int) := by omega
      have c2 : (Q : Int) ≤ (m : Int) := by omega
      have c3 : (0 : Int) ≤ (Q : Int) := by omega
      have c5 : IntKind.i64.wrap ((P : Int) + 1) = (Q : Int) := by rw [IntKind.wrap_i64]; omega
      have e1 : Hid ((wr.alloc (.cells #[] 3)).heap[wr.heap.size]? = some (.cells #[] 3 (0, 0))) := heap_alloc_new _ _
      have hfin : Hid (∀ W v, Below wr.heap.size wr W → W.ownsRow wr.heap.size 3 1 v (0 + P + (m - Q)) ([] ++ CA ++ CB) → ∃ v', Ending.returned (.tuple #[v, .bool true]) = .returned (.tuple #[v', .bool true]) ∧ Below wr.heap.size wr W ∧ W.ownsRow wr.heap.size 3 1 v' (P + (m - Q)) (CA ++ CB)) := fun W v hB ho => by
        refine ⟨v, rfl, hB, ?_⟩
        rw [Nat.zero_add, List.nil_append] at ho
        exact ho
      clear hat hlow
      have hQm : m - Q ≤ 1000 := by omega
      clear hQ
      go_wp2_with fail
      go_region_law (first
        | (refine step_append_own rfl (.tmp 23) (.tmp 27) 27 rfl wr.heap.size 3 i0 (.int .i64 0) 1 8 Tryd.underlying27 hi hz0 hz1 hz2 rfl (by decide) _ _ _ rfl (by exact hown1) AD (m - Q) (cap - Q) CB rfl lb (newsB.out _ (by (repeat (first | assumption | exact Below.refl _ _ | refine below_drew' ?_ | refine below_drewN ?_ _ | refine below_alloc ?_ _)))) ob.out (by unfold maxLen; omega) (by omega) (Below.size (B := wr.heap.size) (by (repeat (first | assumption | exact Below.refl _ _ | refine below_drew' ?_ | refine below_drewN ?_ _ | refine below_alloc ?_ _)))) ?_
           intro v3 w3 hown3 hgrow3 hnil3
           have hb3 : Below wr.heap.size wr w3 := Below.grown (by (repeat (first | assumption | exact Below.refl _ _ | refine below_drew' ?_ | refine below_drewN ?_ _ | refine below_alloc ?_ _))) hgrow3 (Below.size (B := wr.heap.size) (by (repeat (first | assumption | exact Below.refl _ _ | refine below_drew' ?_ | refine below_drewN ?_ _ | refine below_alloc ?_ _)))) (fun k hk => (hown1.lt k hk).1))
        | (refine step_append_own rfl (.tmp 19) (.tmp 22) 27 rfl wr.heap.size 3 i0 (.int .i64 0) 1 8 Tryd.underlying27 hi hz0 hz1 hz2 rfl (by decide) _ 0 [] rfl (own_empty (by exact e1.out) (by omega)) ⟨g, 0, none⟩ P cap CA rfl la (newsA.out _ (by (repeat (first | assumption | exact Below.refl _ _ | refine below_drew' ?_ | refine below_drewN ?_ _ | refine below_alloc ?_ _)))) oa.out (by unfold maxLen; omega) (by omega) (Below.size (B := wr.heap.size) (by (repeat (first | assumption | exact Below.refl _ _ | refine below_drew' ?_ | refine below_drewN ?_ _ | refine below_alloc ?_ _)))) ?_
           intro v1 w1 hown1 hgrow1 hnil1
           have hb1 : Below wr.heap.size wr w1 := Below.grown (by (repeat (first | assumption | exact Below.refl _ _ | refine below_drew' ?_ | refine below_drewN ?_ _ | refine below_alloc ?_ _))) hgrow1 (Below.size (B := wr.heap.size) (by (repeat (first | assumption | exact Below.refl _ _ | refine below_drew' ?_ | refine below_drewN ?_ _ | refine below_alloc ?_ _)))) (fun k hk => Nat.le_of_eq (Option.some.inj (show some wr.heap.size = some k from hk)))))
      all_goals go_wp2_with fail
      all_goals go_ret2
      all_goals exact hfin.out _ _ hb3 hown3
end Go.Proofs.YtoamabmnbldgkaaDoor
