/- What the document's own Put makes of a rising list: the number stands in it once. -/
import Derived.Test.YtoamabmnbldgkaaDoorPlaysList
import Derived.Deep.RegionLaw
import Derived.Laws.AppendOwnNone
namespace Go.Proofs.YtoamabmnbldgkaaDoor
open Go.RowKit Go.Lib Fx Bm
set_option linter.unusedVariables false

/-- A list of numbers as the cells of a slice. -/
def cellsOf (zs : List Nat) : List Value := zs.map fun (x : Nat) => Value.int .i64 x
theorem step_append_own {P : Program} {w : World} {ops : Array Oper} {o : Oper} {a : Act} {K : Act → World → Prop} {Q : Exit → Act → World → Prop} {E : Prop} (hgd : o.guard = none) (s x : Operand) (t : TypeId)
    (ho : o.op = .call { callee := .builtin .append, args := #[s, x], argTypes := #[t, t] })
    (base : Nat) (e : TypeId) (i : TypeInfo) (z : Value) (size bytes : Nat) (ht : P.underlying t = some (.slice e)) (hi : P.info? e = some i) (hz : i.zero = some z)
    (hsize : i.size = size) (hby : i.bytes = bytes) (hzs : z.cells.size = size) (hsz : 0 < size)
    (v : Value) (n : Nat) (xs : List Value) (hs : a.eval s = v) (hown : w.ownsRow base e size v n xs)
    (ad : Addr) (m c : Nat) (news : List Value) (hx : a.eval x = .slice (some ad) m c) (hl : news.length = m * size) (hnews : ∀ j u, news[j]? = some u → w.cell? (ad.add j) = some u) (h1 : ∀ u ∈ news, u.oneCell' = true)
    (h63 : n + m ≤ maxLen) (hbytes : (n + m) * bytes ≤ 140737488355328) (hbase : base ≤ w.heap.size)
    (h : ∀ v' w', w'.ownsRow base e size v' (n + m) (xs ++ news) → w.grownBy w' v.ownBlock → (v' = .slice none 0 0 ↔ v = .slice none 0 0 ∧ m = 0) → K (a.put o.dst v') w') :
    if Region.wanted o (yielded ops a.tmps) = true then Oper.wp P o a w K Q else E := by
  have hw : Region.wanted o (yielded ops a.tmps) = true := by simp [Region.wanted, hgd]
  rw [if_pos hw]
  exact wp_append_own w s x t ho base e i z size bytes ht hi hz hsize hby hzs hsz v n xs hs hown ad m c news hx hl hnews h1 h63 hbytes hbase h

theorem own_empty {W : World} {lo N : Nat} (h : W.heap[N]? = some (.cells #[] 3 (0, 0))) (hN : lo ≤ N) : W.ownsRow lo 3 1 (.slice (some ⟨N, 0, none⟩) 0 0) 0 [] :=
  ⟨rfl, Or.inr ⟨N, 0, #[], rfl, hN, h, Nat.le_refl _, by unfold maxLen; omega, rfl, rfl⟩⟩
theorem ones (zs : List Nat) : ∀ u ∈ cellsOf zs, u.oneCell' = true := fun u hu => by
  obtain ⟨k, _, rfl⟩ := List.mem_map.1 hu; rfl
theorem cell_of_block {W : World} {N : Nat} {x : Value} {t : TypeId} (h : W.heap[N]? = some (.cells #[x] t (0, 0))) : ∀ j u, ([x] : List Value)[j]? = some u → W.cell? ((⟨N, 0, none⟩ : Addr).add j) = some u := fun j u hj => by
  cases j with
  | zero =>
    simp at hj
    subst hj
    unfold World.cell?
    show (match W.heap[N]? with | some (.cells c _ _) => _ | _ => _) = _
    rw [h]; rfl
  | succ j => simp at hj
theorem addr_add0 (b off j : Nat) : (⟨b, off, none⟩ : Addr).add j = ⟨b, off + j, none⟩ := by
  unfold Addr.add
  by_cases h : j = 0
  · rw [if_pos h, h]; rfl
  · rw [if_neg h]
theorem below_drew' {B : Nat} {a b : World} (h : Below B a b) : Below B a b.drew := h.drew

set_option maxRecDepth 100000 in
set_option maxHeartbeats 2000000 in
theorem rput_some {w : World} {g cap m P : Nat} {zs : List Nat} {A B : List Nat} (x : Nat) (hzs : zs = A ++ B) (hA : ∀ a ∈ A, a < x) (hB : ∀ b ∈ B, x < b) (hl : zs.length = m) (hP : A.length = P) (hm : m ≤ 1000) (hgw : g < w.heap.size)
    (hcell : ∀ i, i < m → w.cell? ⟨g, i, none⟩ = some (.int .i64 (zs.getD i 0 : Nat))) (hcap : m ≤ cap) :
    Calls Tryd.prog 13 #[.slice (some ⟨g, 0, none⟩) m cap, .int .i64 x] w fun e w' => ∃ v', e = .returned v' ∧ Below w.heap.size w w' ∧ w'.ownsRow w.heap.size 3 1 v' (m + 1) (cellsOf A ++ [.int .i64 x] ++ cellsOf B) := by
  have hBl : B.length = m - P := by rw [hzs, List.length_append] at hl; omega
  have hlow : Hid (∀ i, i < P → zs.getD i 0 < x) := fun i hi => by
    rw [hzs, List.getD_eq_getElem?_getD, List.getElem?_append_left (by omega), List.getElem?_eq_getElem (by omega)]
    exact hA _ (List.getElem_mem _)
  have hhigh : P < m → x < zs.getD P 0 := fun h => by
    rw [hzs, List.getD_eq_getElem?_getD, List.getElem?_append_right (by omega), List.getElem?_eq_getElem (by omega)]
    exact hB _ (List.getElem_mem _)
  have hPm : P ≤ m := by rw [hzs, List.length_append] at hl; omega
  have newsA : Hid (∀ W, Below w.heap.size w W → ∀ j u, (cellsOf A)[j]? = some u → W.cell? ((⟨g, 0, none⟩ : Addr).add j) = some u) := fun W hW j u hj => by
    have hj2 : j < A.length := by
      rcases Nat.lt_or_ge j A.length with h | h
      · exact h
      · rw [List.getElem?_eq_none (by unfold cellsOf; rw [List.length_map]; exact h)] at hj; cases hj
    rw [addr_add0, Nat.zero_add, hW.cell hgw, hcell j (by omega), ← hj]
    unfold cellsOf
    rw [List.getElem?_map, List.getElem?_eq_getElem hj2, hzs, List.getD_eq_getElem?_getD, List.getElem?_append_left hj2, List.getElem?_eq_getElem hj2]
    rfl
  obtain ⟨AD, hAD, hAD2⟩ : ∃ AD : Addr, (if cap = P then some (⟨g, 0, none⟩ : Addr) else some ⟨g, P, none⟩) = some AD ∧ (P < cap → AD = ⟨g, P, none⟩) := by
    by_cases h : cap = P
    · exact ⟨_, if_pos h, fun h2 => by omega⟩
    · exact ⟨_, if_neg h, fun _ => rfl⟩
  have newsB : Hid (∀ W, Below w.heap.size w W → ∀ j u, (cellsOf B)[j]? = some u → W.cell? (AD.add j) = some u) := fun W hW j u hj => by
    have hj2 : j < B.length := by
      rcases Nat.lt_or_ge j B.length with h | h
      · exact h
      · rw [List.getElem?_eq_none (by unfold cellsOf; rw [List.length_map]; exact h)] at hj; cases hj
    rw [hAD2 (by omega), addr_add0, hW.cell hgw, hcell (P + j) (by omega), ← hj]
    unfold cellsOf
    rw [List.getElem?_map, List.getElem?_eq_getElem hj2, hzs, List.getD_eq_getElem?_getD, List.getElem?_append_right (by omega), show P + j - A.length = j by omega, List.getElem?_eq_getElem hj2]
    rfl
  have la : (cellsOf A).length = P * 1 := by unfold cellsOf; rw [List.length_map]; omega
  have lb : (cellsOf B).length = (m - P) * 1 := by unfold cellsOf; rw [List.length_map]; omega
  have oa := ones A
  have ob := ones B
  replace oa : Hid _ := oa
  replace ob : Hid _ := ob
  replace hcell : Hid _ := hcell
  have m5 : P + 1 + (m - P) = m + 1 := by omega
  obtain ⟨i0, hi, hz0, hz1, hz2⟩ := info_parts infoI
  clear hzs hA hB hAD2 hl hP hBl
  generalize cellsOf A = CA at *
  generalize cellsOf B = CB at *
  go_enter Tryd.func13, Tryd.ntmps13
  go_wp2_with fail
  go_loopw [5] (fun u wr => ∃ i : Nat, u = .int .i64 i ∧ i ≤ P ∧ wr = w) (fun u _ => (P - (intOf u).toNat))
  case atStart => exact ⟨0, rfl, by omega, rfl⟩
  case round =>
    obtain ⟨i, rfl, i1, rfl⟩ := hrel
    by_cases hiP : i < P
    · have k1 := hcell.out i (by omega)
      have k2 := hlow.out i hiP
      have i2 : (i : Int) < (m : Int) := by omega
      generalize zs.getD i 0 = y at *
      clear hhigh
      go_wp2_with fail
      go_roundw
      case rel => exact ⟨i + 1, by go_num, by omega, by first | rfl | trivial⟩
      case measure => simp [intOf]; omega
    · obtain rfl : P = i := by omega
      have c0 : (P : Int) ≤ (cap : Int) := by omega
      have c1 : (0 : Int) ≤ (P : Int) := by omega
      have c2 : (P : Int) ≤ (m : Int) := by omega
      have e1 : (wr.alloc (.cells #[] 3)).heap[wr.heap.size]? = some (.cells #[] 3 (0, 0)) := heap_alloc_new _ _
      have e2 : ((wr.alloc (.cells #[] 3)).alloc (.cells #[.int .i64 x] 3)).heap[wr.heap.size]? = some (.cells #[] 3 (0, 0)) := (heap_alloc_old _ _ (by show _ < (wr.heap.push _).size; rw [Array.size_push]; omega)).trans e1
      have e3 : ((wr.alloc (.cells #[.int .i64 x] 3)).alloc (.cells #[] 3)).heap[wr.heap.size + 1]? = some (.cells #[] 3 (0, 0)) := heap_alloc2_new _ _ _
      have x2 : ((wr.alloc (.cells #[] 3)).alloc (.cells #[.int .i64 x] 3)).heap[wr.heap.size + 1]? = some (.cells #[.int .i64 x] 3 (0, 0)) := heap_alloc2_new _ _ _
      have x3 : ((wr.alloc (.cells #[.int .i64 x] 3)).alloc (.cells #[] 3)).heap[wr.heap.size]? = some (.cells #[.int .i64 x] 3 (0, 0)) := (heap_alloc_old _ _ (by show _ < (wr.heap.push _).size; rw [Array.size_push]; omega)).trans (heap_alloc_new _ _)
      have lt2 : wr.heap.size + 1 < ((wr.alloc (.cells #[] 3)).alloc (.cells #[.int .i64 x] 3)).heap.size := by show _ < ((wr.heap.push _).push _).size; rw [Array.size_push, Array.size_push]; omega
      have lt3 : wr.heap.size < ((wr.alloc (.cells #[.int .i64 x] 3)).alloc (.cells #[] 3)).heap.size := by show _ < ((wr.heap.push _).push _).size; rw [Array.size_push, Array.size_push]; omega
      have hfin : ∀ W v, Below wr.heap.size wr W → W.ownsRow wr.heap.size 3 1 v (0 + P + 1 + (m - P)) ([] ++ CA ++ [.int .i64 x] ++ CB) → ∃ v', Ending.returned v = .returned v' ∧ Below wr.heap.size wr W ∧ W.ownsRow wr.heap.size 3 1 v' (m + 1) (CA ++ [.int .i64 x] ++ CB) := fun W v hB ho => by
        refine ⟨v, rfl, hB, ?_⟩
        rw [show 0 + P + 1 + (m - P) = m + 1 by omega, List.nil_append] at ho
        exact ho
      replace hfin : Hid _ := hfin
      replace lt2 : Hid _ := lt2
      replace lt3 : Hid _ := lt3
      replace e1 : Hid _ := e1
      replace e2 : Hid _ := e2
      replace e3 : Hid _ := e3
      replace x2 : Hid _ := x2
      replace x3 : Hid _ := x3
      by_cases hlt : P < m
      · have k1 := hcell.out P hlt
        have k2 := hhigh hlt
        generalize zs.getD P 0 = y at *
        have k3 : ((y : Int) == (x : Int)) = false := by rw [beq_eq_false_iff_ne]; omega
        have i2 : (P : Int) < (m : Int) := by omega
        clear hhigh
        go_wp2_with fail
        go_region_law (first
          | (refine step_append_own rfl (.tmp 37) (.tmp 39) 27 rfl wr.heap.size 3 i0 (.int .i64 0) 1 8 Tryd.underlying27 hi hz0 hz1 hz2 rfl (by decide) _ _ _ rfl (by first | exact hown1 | exact hown1.alloc _) _ 1 1 [.int .i64 x] rfl rfl (cell_of_block (by first | exact (hgrow1.block _ (by first | exact lt2.out | exact lt3.out) (by first | (show some (wr.heap.size + 1) ≠ some wr.heap.size; simp; done) | (show some wr.heap.size ≠ some (wr.heap.size + 1); simp; done))).trans (by first | exact x2.out | exact x3.out) | exact heap_alloc_new _ _)) (ones [x]) (by unfold maxLen; omega) (by omega) (Below.size (B := wr.heap.size) (by (repeat (first | assumption | exact Below.refl _ _ | refine below_drew' ?_ | refine below_drewN ?_ _ | refine below_alloc ?_ _)))) ?_
             intro v2 w2 hown2 hgrow2 hnil2
             have hb2 : Below wr.heap.size wr w2 := Below.grown (by (repeat (first | assumption | exact Below.refl _ _ | refine below_drew' ?_ | refine below_drewN ?_ _ | refine below_alloc ?_ _))) hgrow2 (Below.size (B := wr.heap.size) (by (repeat (first | assumption | exact Below.refl _ _ | refine below_drew' ?_ | refine below_drewN ?_ _ | refine below_alloc ?_ _)))) (fun k hk => (hown1.lt k hk).1))
          | (refine step_append_own rfl (.tmp 40) (.tmp 43) 27 rfl wr.heap.size 3 i0 (.int .i64 0) 1 8 Tryd.underlying27 hi hz0 hz1 hz2 rfl (by decide) _ _ _ rfl (by exact hown2) AD (m - P) (cap - P) CB rfl lb (newsB.out _ (by (repeat (first | assumption | exact Below.refl _ _ | refine below_drew' ?_ | refine below_drewN ?_ _ | refine below_alloc ?_ _)))) ob.out (by unfold maxLen; omega) (by omega) (Below.size (B := wr.heap.size) (by (repeat (first | assumption | exact Below.refl _ _ | refine below_drew' ?_ | refine below_drewN ?_ _ | refine below_alloc ?_ _)))) ?_
             intro v3 w3 hown3 hgrow3 hnil3
             have hb3 : Below wr.heap.size wr w3 := Below.grown (by (repeat (first | assumption | exact Below.refl _ _ | refine below_drew' ?_ | refine below_drewN ?_ _ | refine below_alloc ?_ _))) hgrow3 (Below.size (B := wr.heap.size) (by (repeat (first | assumption | exact Below.refl _ _ | refine below_drew' ?_ | refine below_drewN ?_ _ | refine below_alloc ?_ _)))) (fun k hk => (hown2.lt k hk).1))
          | (refine step_append_own rfl (.tmp 33) (.tmp 36) 27 rfl wr.heap.size 3 i0 (.int .i64 0) 1 8 Tryd.underlying27 hi hz0 hz1 hz2 rfl (by decide) _ 0 [] rfl (own_empty (by first | exact e1.out | exact e2.out | exact e3.out) (by omega)) ⟨g, 0, none⟩ P cap CA rfl la (newsA.out _ (by (repeat (first | assumption | exact Below.refl _ _ | refine below_drew' ?_ | refine below_drewN ?_ _ | refine below_alloc ?_ _)))) oa.out (by unfold maxLen; omega) (by omega) (Below.size (B := wr.heap.size) (by (repeat (first | assumption | exact Below.refl _ _ | refine below_drew' ?_ | refine below_drewN ?_ _ | refine below_alloc ?_ _)))) ?_
             intro v1 w1 hown1 hgrow1 hnil1
             have hb1 : Below wr.heap.size wr w1 := Below.grown (by (repeat (first | assumption | exact Below.refl _ _ | refine below_drew' ?_ | refine below_drewN ?_ _ | refine below_alloc ?_ _))) hgrow1 (Below.size (B := wr.heap.size) (by (repeat (first | assumption | exact Below.refl _ _ | refine below_drew' ?_ | refine below_drewN ?_ _ | refine below_alloc ?_ _)))) (fun k hk => by first | exact Nat.le_of_eq (Option.some.inj (show some wr.heap.size = some k from hk)) | exact (Option.some.inj (show some (wr.heap.size + 1) = some k from hk)) ▸ Nat.le_succ _)))
        all_goals go_wp2_with fail
        all_goals go_ret
        all_goals exact hfin.out _ _ hb3 hown3
      · have i2 : ¬ (P : Int) < (m : Int) := by omega
        clear hhigh
        go_wp2_with fail
        go_region_law (first
          | (refine step_append_own rfl (.tmp 37) (.tmp 39) 27 rfl wr.heap.size 3 i0 (.int .i64 0) 1 8 Tryd.underlying27 hi hz0 hz1 hz2 rfl (by decide) _ _ _ rfl (by first | exact hown1 | exact hown1.alloc _) _ 1 1 [.int .i64 x] rfl rfl (cell_of_block (by first | exact (hgrow1.block _ (by first | exact lt2.out | exact lt3.out) (by first | (show some (wr.heap.size + 1) ≠ some wr.heap.size; simp; done) | (show some wr.heap.size ≠ some (wr.heap.size + 1); simp; done))).trans (by first | exact x2.out | exact x3.out) | exact heap_alloc_new _ _)) (ones [x]) (by unfold maxLen; omega) (by omega) (Below.size (B := wr.heap.size) (by (repeat (first | assumption | exact Below.refl _ _ | refine below_drew' ?_ | refine below_drewN ?_ _ | refine below_alloc ?_ _)))) ?_
             intro v2 w2 hown2 hgrow2 hnil2
             have hb2 : Below wr.heap.size wr w2 := Below.grown (by (repeat (first | assumption | exact Below.refl _ _ | refine below_drew' ?_ | refine below_drewN ?_ _ | refine below_alloc ?_ _))) hgrow2 (Below.size (B := wr.heap.size) (by (repeat (first | assumption | exact Below.refl _ _ | refine below_drew' ?_ | refine below_drewN ?_ _ | refine below_alloc ?_ _)))) (fun k hk => (hown1.lt k hk).1))
          | (refine step_append_own rfl (.tmp 40) (.tmp 43) 27 rfl wr.heap.size 3 i0 (.int .i64 0) 1 8 Tryd.underlying27 hi hz0 hz1 hz2 rfl (by decide) _ _ _ rfl (by exact hown2) AD (m - P) (cap - P) CB rfl lb (newsB.out _ (by (repeat (first | assumption | exact Below.refl _ _ | refine below_drew' ?_ | refine below_drewN ?_ _ | refine below_alloc ?_ _)))) ob.out (by unfold maxLen; omega) (by omega) (Below.size (B := wr.heap.size) (by (repeat (first | assumption | exact Below.refl _ _ | refine below_drew' ?_ | refine below_drewN ?_ _ | refine below_alloc ?_ _)))) ?_
             intro v3 w3 hown3 hgrow3 hnil3
             have hb3 : Below wr.heap.size wr w3 := Below.grown (by (repeat (first | assumption | exact Below.refl _ _ | refine below_drew' ?_ | refine below_drewN ?_ _ | refine below_alloc ?_ _))) hgrow3 (Below.size (B := wr.heap.size) (by (repeat (first | assumption | exact Below.refl _ _ | refine below_drew' ?_ | refine below_drewN ?_ _ | refine below_alloc ?_ _)))) (fun k hk => (hown2.lt k hk).1))
          | (refine step_append_own rfl (.tmp 33) (.tmp 36) 27 rfl wr.heap.size 3 i0 (.int .i64 0) 1 8 Tryd.underlying27 hi hz0 hz1 hz2 rfl (by decide) _ 0 [] rfl (own_empty (by first | exact e1.out | exact e2.out | exact e3.out) (by omega)) ⟨g, 0, none⟩ P cap CA rfl la (newsA.out _ (by (repeat (first | assumption | exact Below.refl _ _ | refine below_drew' ?_ | refine below_drewN ?_ _ | refine below_alloc ?_ _)))) oa.out (by unfold maxLen; omega) (by omega) (Below.size (B := wr.heap.size) (by (repeat (first | assumption | exact Below.refl _ _ | refine below_drew' ?_ | refine below_drewN ?_ _ | refine below_alloc ?_ _)))) ?_
             intro v1 w1 hown1 hgrow1 hnil1
             have hb1 : Below wr.heap.size wr w1 := Below.grown (by (repeat (first | assumption | exact Below.refl _ _ | refine below_drew' ?_ | refine below_drewN ?_ _ | refine below_alloc ?_ _))) hgrow1 (Below.size (B := wr.heap.size) (by (repeat (first | assumption | exact Below.refl _ _ | refine below_drew' ?_ | refine below_drewN ?_ _ | refine below_alloc ?_ _)))) (fun k hk => by first | exact Nat.le_of_eq (Option.some.inj (show some wr.heap.size = some k from hk)) | exact (Option.some.inj (show some (wr.heap.size + 1) = some k from hk)) ▸ Nat.le_succ _)))
        all_goals go_wp2_with fail
        all_goals go_ret
        all_goals exact hfin.out _ _ hb3 hown3
end Go.Proofs.YtoamabmnbldgkaaDoor
