/- What the document's own Out makes of a row: it without the first such number, in a new block, or itself. -/
import Derived.Test.YtejijddhmckgiaaRow
namespace Go.Proofs.Ytejijddhmckgiaa
open Go.RowKit Go.Lib Fx Ho Qu
set_option linter.unusedVariables false
namespace Rw
variable {w w' : World} {p : Nat} {v : Value} {zs A B : List Int} {H H' S : Home}
set_option maxRecDepth 100000 in
set_option maxHeartbeats 1000000 in
theorem out_not {x : Int} (h : Ints w S v zs) (hno : x ∉ zs) : Calls Try.prog 66 #[v, .int .i64 x] w (Still (.tuple #[v, .bool false]) w) := by
  obtain ⟨sp, cap, rfl, hm, hc⟩ := h
  have hout := Lib.hid (not_at hno)
  obtain ⟨m, hme⟩ : ∃ m, zs.length = m := ⟨_, rfl⟩
  rw [hme] at hm hc hout ⊢
  have hc : Hid _ := hc
  clear hme hno
  go_enter Try.func66, Try.ntmps66
  go_wp2_with fail
  go_loopw [6] (fun u wr => ∃ i : Nat, u = .int .i64 i ∧ i ≤ m ∧ wr = w) (fun u _ => (m - (intOf u).toNat))
  case atStart => exact ⟨0, rfl, by omega, rfl⟩
  case round =>
    obtain ⟨i, rfl, i1, rfl⟩ := hrel
    by_cases hi : i < m
    · obtain ⟨b1, o1, rfl, _, _, k1⟩ := hc.out i hi
      have i2 : (i : Int) < (m : Int) := by omega
      have hx2 : (zs.getD i 0 == x) = false := by rw [beq_eq_false_iff_ne]; exact hout.out i hi
      generalize zs.getD i 0 = y at *
      clear hout
      go_wp2_with fail
      go_roundw
      case rel => exact ⟨i + 1, by go_num, by omega, by first | rfl | trivial⟩
      case measure => simp [intOf]; omega
    · obtain rfl : m = i := by omega
      go_wp2_with fail
      go_ret2
      exact ⟨rfl, rfl⟩
set_option maxRecDepth 100000 in
set_option maxHeartbeats 1000000 in
theorem out_some {x : Int} {sp : Option Addr} {l cap : Nat} (h : Ints w S (.slice sp l cap) (A ++ x :: B)) (hno : x ∉ A) (hl : (A ++ x :: B).length = l) (hcap : l ≤ cap) (hs : l ≤ 500000) : Calls Try.prog 66 #[.slice sp l cap, .int .i64 x] w fun e w' => ∃ v', e = .returned (.tuple #[v', .bool true]) ∧ OffRow w' v' (A ++ B) ∧ Low w.heap.size (fun k => v'.ownBlock = some k) ∧ Below w.heap.size w w' := by
  obtain ⟨sp', cap', e, hm, hc⟩ := h
  have hlen : (A ++ x :: B).length = A.length + B.length + 1 := by rw [List.length_append, List.length_cons]; omega
  obtain ⟨rfl, rfl⟩ : sp = sp' ∧ cap = cap' := by injection e with e1 e2 e3; exact ⟨e1, e3⟩
  obtain ⟨b, off, rfl, _, hbw, _⟩ := hc A.length (by omega)
  have hcell : ∀ j, j < A.length + B.length + 1 → w.cell? ⟨b, off + j, none⟩ = some (.int .i64 ((A ++ x :: B).getD j 0)) := fun j hj => by
    obtain ⟨b2, o2, e, _, _, k⟩ := hc j (by omega)
    cases e; exact k
  have hk : w.cell? ⟨b, off + A.length, none⟩ = some (.int .i64 x) := by rw [hcell _ (by omega), at_first]
  have hlow : Hid (∀ j, j < A.length → ∃ y, w.cell? ⟨b, off + j, none⟩ = some (.int .i64 y) ∧ (y == x) = false) := fun j hj => ⟨_, hcell j (by omega), by rw [beq_eq_false_iff_ne]; exact before_first hno j hj⟩
  have srcA : Hid (∀ W c, Below w.heap.size w W → Src Try.prog 1 35 (.slice (some ⟨b, off, none⟩) A.length c) A.length (cells A) W) := fun W c hb =>
    Src.ofSlice W Try.underlying35 ⟨b, off, none⟩ A.length c (cells A) (by rw [cells_len]; omega) (fun j u hj => by
      have hj2 := (List.getElem?_eq_some_iff.1 hj).1
      rw [cells_len] at hj2
      rw [addr_add, cell_then hb (hcell j (by omega)), gd_left hj2, ← hj]
      unfold cells
      rw [List.getElem?_map, List.getD_eq_getElem?_getD, List.getElem?_eq_getElem hj2]; rfl) (cells_one _)
  have srcB : Hid (∀ W o c, Below w.heap.size w W → (0 < B.length → o = off + (A.length + 1)) → Src Try.prog 1 35 (.slice (some ⟨b, o, none⟩) (l - (A.length + 1)) c) B.length (cells B) W) := fun W o c hb ho => by
    rw [show l - (A.length + 1) = B.length by omega]
    exact Src.ofSlice W Try.underlying35 ⟨b, o, none⟩ B.length c (cells B) (by rw [cells_len]; omega) (fun j u hj => by
      have hj2 := (List.getElem?_eq_some_iff.1 hj).1
      rw [cells_len] at hj2
      rw [addr_add, ho (by omega), Nat.add_assoc, cell_then hb (hcell (A.length + 1 + j) (by omega)), gd_right (by omega), show A.length + 1 + j - A.length = j + 1 by omega, ← hj]
      unfold cells
      rw [List.getElem?_map, List.getD_eq_getElem?_getD, List.getElem?_cons_succ, List.getElem?_eq_getElem hj2]; rfl) (cells_one _)
  have hk2 : off + (A.length + 1) = off + A.length + 1 := by omega
  have hAB : l = A.length + B.length + 1 := by omega
  have hbA : ([] : List Int).length + A.length ≤ 1000000 := by show 0 + A.length ≤ _; omega
  have hbB : ([] ++ A : List Int).length + B.length ≤ 1000000 := by show A.length + B.length ≤ _; omega
  have hend : Hid (∀ W v, OffRow W v ([] ++ A ++ B) → OffRow W v (A ++ B)) := fun W v h => h
  clear hc hcell e hlen hl hno
  obtain ⟨r, hr⟩ : ∃ r, B.length = r := ⟨_, rfl⟩
  have hr2 : Hid (B.length = r) := hr
  obtain ⟨k, hkk⟩ : ∃ k, A.length = k := ⟨_, rfl⟩
  rw [hkk] at hk hlow srcB hk2 hAB
  rw [hr] at hAB
  have hkk2 : Hid (A.length = k) := hkk
  have srcA2 : Hid (∀ W c, Below w.heap.size w W → Src Try.prog 1 35 (.slice (some ⟨b, off, none⟩) k c) A.length (cells A) W) := by rw [← hkk]; exact srcA.out
  clear srcA hr hkk
  have hkl : k < l := by omega
  have hlm : l ≤ 9223372036854775807 := by omega
  have hABh : Hid (l = k + r + 1) := hAB
  clear hAB
  go_enter Try.func66, Try.ntmps66
  go_wp2_with fail
  go_loopw [6] (fun u wr => ∃ i : Nat, u = .int .i64 i ∧ i ≤ k ∧ wr = w) (fun u _ => (k - (intOf u).toNat))
  case atStart => exact ⟨0, rfl, by omega, rfl⟩
  case round =>
    obtain ⟨i, rfl, i1, rfl⟩ := hrel
    have i2 : (i : Int) < (l : Int) := by omega
    have i0 : (0 : Int) ≤ (i : Int) := by omega
    by_cases hik : i < k
    · obtain ⟨y, k1, hx2⟩ := hlow.out i hik
      clear hk hk2
      go_wp2_with fail
      go_roundw
      case rel => exact ⟨i + 1, by go_num, by omega, by first | rfl | trivial⟩
      case measure => simp [intOf]; omega
    · obtain rfl : i = k := by omega
      have c0 : (i : Int) ≤ (cap : Int) := by omega
      have c2 : (i : Int) + 1 ≤ (l : Int) := by omega
      have c3 : (0 : Int) ≤ (i : Int) + 1 := by omega
      have c5 : IntKind.i64.wrap ((i : Int) + 1) = ((i + 1 : Nat) : Int) := by rw [IntKind.wrap_i64]; omega
      have c6 : ((i + 1 : Nat) : Int) ≤ (l : Int) := by omega
      have c7 : (0 : Int) ≤ ((i + 1 : Nat) : Int) := by omega
      have e1 : Hid ((wr.alloc (.cells #[] 3)).heap[wr.heap.size]? = some (.cells #[] 3 (0, 0))) := heap_alloc_new _ _
      have e2 : wr.heap.size ≤ (wr.alloc (.cells #[] 3)).heap.size := by show _ ≤ (wr.heap.push _).size; rw [Array.size_push]; omega
      have hb1 : Hid (Below wr.heap.size wr (wr.alloc (.cells #[] 3))) := below_alloc (Below.refl _ _) _
      clear hlow hk2
      go_wp2_with fail
      by_cases hci : cap = i + 1
      · have hr0 : B.length = 0 := by have := hr2.out; have := hABh.out; omega
        have hr0 := Lib.hid hr0
        have c8 : (i : Int) ≤ (i : Int) + 1 := by omega
        go_region_law (first
          | (refine step_append_low rfl (.tmp 23) (.tmp 27) rfl rfl wr.heap.size hr7.out hl7.out hs7 rfl rfl (srcB.out w7 off 0 hb17.out (fun h => by have := hr0.out; omega)) hbB ?_; intro v8 w8 hr8 hl8 hb8)
          | (refine step_append_low rfl (.tmp 19) (.tmp 22) rfl rfl wr.heap.size (off_empty (by exact e1.out)) (low_some (Nat.le_refl _)) (by exact e2) rfl rfl (srcA2.out _ (i + 1) (by (repeat (first | exact hb1.out | exact Below.refl _ _ | refine below_drewN ?_ _ | refine Below.drew ?_)))) hbA ?_; intro v7 w7 hr7 hl7 hb7; have hs7 : wr.heap.size ≤ w7.heap.size := Nat.le_trans e2 hb7.size; replace hr7 := Lib.hid hr7; replace hl7 := Lib.hid hl7; have hb17 : Hid (Below wr.heap.size wr w7) := Below.trans (by (repeat (first | exact hb1.out | exact Below.refl _ _ | refine below_drewN ?_ _ | refine Below.drew ?_))) hb7; clear hb7))
        all_goals go_wp2_with fail
        all_goals go_ret2
        all_goals exact ⟨_, rfl, hend.out _ _ hr8, hl8, hb17.out.trans hb8⟩
      · have hci2 : ¬ (i + 1 = cap) := fun e => hci e.symm
        go_region_law (first
          | (refine step_append_low rfl (.tmp 23) (.tmp 27) rfl rfl wr.heap.size hr7.out hl7.out hs7 rfl rfl (srcB.out w7 (off + (i + 1)) (cap - (i + 1)) hb17.out (fun _ => rfl)) hbB ?_; intro v8 w8 hr8 hl8 hb8)
          | (refine step_append_low rfl (.tmp 19) (.tmp 22) rfl rfl wr.heap.size (off_empty (by exact e1.out)) (low_some (Nat.le_refl _)) (by exact e2) rfl rfl (srcA2.out _ cap (by (repeat (first | exact hb1.out | exact Below.refl _ _ | refine below_drewN ?_ _ | refine Below.drew ?_)))) hbA ?_; intro v7 w7 hr7 hl7 hb7; have hs7 : wr.heap.size ≤ w7.heap.size := Nat.le_trans e2 hb7.size; replace hr7 := Lib.hid hr7; replace hl7 := Lib.hid hl7; have hb17 : Hid (Below wr.heap.size wr w7) := Below.trans (by (repeat (first | exact hb1.out | exact Below.refl _ _ | refine below_drewN ?_ _ | refine Below.drew ?_))) hb7; clear hb7))
        all_goals go_wp2_with fail
        all_goals go_ret2
        all_goals exact ⟨_, rfl, hend.out _ _ hr8, hl8, hb17.out.trans hb8⟩
end Rw
end Go.Proofs.Ytejijddhmckgiaa
