/- Taking an id out of a row: what the call of package central's rows does to the blocks. -/
import Derived.Test.YtejijddhmckgiaaCDo
namespace Go.Proofs.Ytejijddhmckgiaa
open Go.RowKit Go.Lib Fx Ho Rw
set_option linter.unusedVariables false
namespace Ce
variable {w w' W : World} {R r N o : Nat} {Q : Rows} {sp : Int → Nat} {H H' : Home} {x y z : Int} {P S P0 S0 : List Int}
def stP (R r : Nat) (sp : Int → Nat) (P S : List Int) (w : World) : World := match P.getLast? with
  | none => w.setCell ⟨R, r * 3, none⟩ (ptr (S.head?.map sp))
  | some y => w.setCell ⟨sp y, 3, none⟩ (ptr (S.head?.map sp))
def stS (R r : Nat) (sp : Int → Nat) (P S : List Int) (w : World) : World := match S with
  | [] => w.setCell ⟨R, r * 3 + 1, none⟩ (ptr (P.getLast?.map sp))
  | z :: _ => w.setCell ⟨sp z, 2, none⟩ (ptr (P.getLast?.map sp))
theorem stP_nil (w : World) : stP R r sp [] S w = w.setCell ⟨R, r * 3, none⟩ (ptr (S.head?.map sp)) := rfl
theorem stP_some (w : World) : stP R r sp (P ++ [y]) S w = w.setCell ⟨sp y, 3, none⟩ (ptr (S.head?.map sp)) := by unfold stP; simp
theorem stP_size (w : World) : (stP R r sp P S w).heap.size = w.heap.size := by unfold stP; split <;> rw [size_set]
theorem stS_size (w : World) : (stS R r sp P S w).heap.size = w.heap.size := by unfold stS; split <;> rw [size_set]
theorem del_rows (h : IsRows w R Q sp) (hr : r < 64) (e : Q r = P ++ x :: S) (hh : W.heap = ((stS R r sp P S (stP R r sp P S w)).setCell ⟨R, r * 3 + 2, none⟩ (.int .i64 ((P ++ S).length))).heap) :
    IsRows W R (upd Q r (P ++ S)) sp ∧ ∀ b, b < w.heap.size → b ≠ R → (∀ P0 y, P = P0 ++ [y] → b ≠ sp y) → (∀ y S0, S = y :: S0 → b ≠ sp y) → W.heap[b]? = w.heap[b]? := by
  have hnd := h.nd r hr
  have memP : ∀ z ∈ P, z ∈ Q r := fun z hz => by rw [e]; simp [hz]
  have memS : ∀ z ∈ S, z ∈ Q r := fun z hz => by rw [e]; simp [hz]
  have hPo : ∀ (b : Nat) (w : World), b ≠ R → (∀ P0 y, P = P0 ++ [y] → b ≠ sp y) → (stP R r sp P S w).heap[b]? = w.heap[b]? := fun b w h1 h2 => by
    rcases List.eq_nil_or_concat P with rfl | ⟨P0, y, rfl⟩
    · rw [stP_nil, heap_set_other _ _ _ _ _ h1]
    · rw [List.concat_eq_append] at *
      rw [stP_some, heap_set_other _ _ _ _ _ (h2 P0 y rfl)]
  have hSo : ∀ (b : Nat) (w : World), b ≠ R → (∀ y S0, S = y :: S0 → b ≠ sp y) → (stS R r sp P S w).heap[b]? = w.heap[b]? := fun b w h1 h2 => by
    cases S with
    | nil => exact heap_set_other _ _ _ _ _ h1
    | cons z S0 => exact heap_set_other _ _ _ _ _ (h2 z S0 rfl)
  have hall : ∀ b, b < w.heap.size → b ≠ R → (∀ P0 y, P = P0 ++ [y] → b ≠ sp y) → (∀ y S0, S = y :: S0 → b ≠ sp y) → W.heap[b]? = w.heap[b]? := fun b hb h1 h2 h3 => by
    rw [hh, heap_set_other _ _ _ _ _ h1, hSo b _ h1 h3, hPo b _ h1 h2]
  have apart : ∀ y z, y ∈ P → z ∈ S → sp y ≠ sp z := fun y z hy hz e2 => by
    have e3 := h.inj r r y z hr hr (memP y hy) (memS z hz) e2
    subst e3
    rw [e] at hnd
    exact (List.nodup_append.1 hnd).2.2 y hy y (by simp [hz]) rfl
  refine ⟨h.del hr e (fun A hA => ?_) (fun P1 y ey => ?_) (fun y S1 ey => ?_) hall, hall⟩
  · obtain ⟨A0, k1, k2⟩ := h.rows
    rw [hA] at k1
    cases k1
    obtain ⟨a, b, c⟩ := k2 r hr
    obtain ⟨A1, g1, g2, g3⟩ : ∃ A1, (stP R r sp P S w).heap[R]? = some (.cells A1 109 (0, 0)) ∧ A1[r * 3]? = some (ptr ((P ++ S).head?.map sp)) ∧ ∀ j, j ≠ r * 3 → A1[j]? = A[j]? := by
      rcases List.eq_nil_or_concat P with rfl | ⟨P0, y, rfl⟩
      · exact ⟨_, heap_setCell_same _ R _ _ _ _ hA, arr_same a, fun j hj => arr_ne hj.symm⟩
      · rw [List.concat_eq_append] at *
        refine ⟨A, ?_, ?_, fun j _ => rfl⟩
        · rw [stP_some, heap_set_other _ _ _ _ _ (h.off r y hr (memP y (by simp))).symm]; exact hA
        · rw [a, e]
          cases P0 with
          | nil => simp
          | cons q P0 => simp
    obtain ⟨A2, g4, g5, g6⟩ : ∃ A2, (stS R r sp P S (stP R r sp P S w)).heap[R]? = some (.cells A2 109 (0, 0)) ∧ A2[r * 3 + 1]? = some (ptr ((P ++ S).getLast?.map sp)) ∧ ∀ j, j ≠ r * 3 + 1 → A2[j]? = A1[j]? := by
      cases S with
      | nil => exact ⟨_, heap_setCell_same _ R _ _ _ _ g1, by rw [arr_same (v := ptr ((Q r).getLast?.map sp)) (by rw [g3 _ (by omega)]; exact b), List.append_nil], fun j hj => arr_ne hj.symm⟩
      | cons z S0 =>
        refine ⟨A1, ?_, ?_, fun j _ => rfl⟩
        · exact (heap_set_other _ _ _ _ _ (h.off r z hr (memS z (by simp))).symm).trans g1
        · rw [g3 _ (by omega), b, e]
          simp [List.getLast?_append, List.getLast?_cons]
    refine ⟨_, by rw [hh]; exact heap_setCell_same _ R _ _ _ _ g4, ⟨?_, ?_, ?_⟩, fun j hj => ?_⟩
    · rw [arr_ne (by omega), g6 _ (by omega), g2, upd_same]
    · rw [arr_ne (by omega), g5, upd_same]
    · rw [arr_same (v := .int .i64 (Q r).length) (by rw [g6 _ (by omega), g3 _ (by omega)]; exact c), upd_same]
    · rw [arr_ne (hj 2 (by omega)).symm, g6 _ (hj 1 (by omega)), g3 _ (by have := hj 0 (by omega); omega)]
  · subst ey
    have hy : y ∈ Q r := memP y (by simp)
    have eo := h.spot r hr P1 y (x :: S) (by rw [e]; simp)
    have e1 : (stP R r sp (P1 ++ [y]) S w).heap[sp y]? = some (.cells (spotA y R r (P1.getLast?.map sp) (S.head?.map sp)) 114 (0, 0)) := by
      rw [stP_some, heap_setCell_same _ _ _ _ _ _ eo]; rfl
    rw [hh, heap_set_other _ _ _ _ _ (h.off r y hr hy), hSo _ _ (h.off r y hr hy) (fun z S0 ez => apart y z (by simp) (by rw [ez]; simp)), e1]
  · subst ey
    have hy : y ∈ Q r := memS y (by simp)
    have eo := h.spot r hr (P ++ [x]) y S1 (by rw [e]; simp)
    have e1 : (stS R r sp P (y :: S1) (stP R r sp P (y :: S1) w)).heap[sp y]? = some (.cells (spotA y R r (P.getLast?.map sp) (S1.head?.map sp)) 114 (0, 0)) := by
      have e2 : (stP R r sp P (y :: S1) w).heap[sp y]? = some (.cells (spotA y R r ((P ++ [x]).getLast?.map sp) (S1.head?.map sp)) 114 (0, 0)) := by
        rw [hPo _ _ (h.off r y hr hy) (fun P0 q eq e3 => apart q y (by rw [eq]; simp) (by simp) e3.symm)]; exact eo
      show (((stP R r sp P (y :: S1) w)).setCell ⟨sp y, 2, none⟩ _).heap[sp y]? = _
      rw [heap_setCell_same _ _ _ _ _ _ e2]; rfl
    rw [hh, heap_set_other _ _ _ _ _ (h.off r y hr hy), e1]
def DelRow2 (w : World) (R r : Nat) (Q : Rows) (sp : Int → Nat) (P S : List Int) (x : Int) (e : Ending) (w' : World) : Prop :=
  e = .returned (.tuple #[]) ∧ Wrote (RH R Q sp) w (RH R (upd Q r (P ++ S)) sp) w' ∧ IsRows w' R (upd Q r (P ++ S)) sp ∧ w'.heap[sp x]? = w.heap[sp x]?
set_option maxRecDepth 100000 in
set_option maxHeartbeats 1000000 in
theorem rdel_any (h : IsRows w R Q sp) (hr : r < 64) (ho : o = r * 3) (e : Q r = P ++ x :: S) (hl : (Q r).length ≤ 1000000) :
    Calls Try.prog 64 #[.pointer (some ⟨R, o, none⟩), .pointer (some ⟨sp x, 0, none⟩)] w (DelRow2 w R r Q sp P S x) := by
  subst ho
  obtain ⟨c0, c1, c2⟩ := h.cells hr
  have f0 := h.fzR (r * 3)
  have f1 := h.fzR (r * 3 + 1)
  have f2 := h.fzR (r * 3 + 2)
  obtain ⟨s0, s1, s2, s3⟩ := h.spotC hr e
  have hxm : x ∈ Q r := by rw [e]; simp
  have hxR := h.off r x hr hxm
  have hnd := h.nd r hr
  have hlen := h.len hr e
  have hfin : Hid (∀ W n, (Q r).length = n → W.heap = ((stS R r sp P S (stP R r sp P S w)).setCell ⟨R, r * 3 + 2, none⟩ (.int .i64 ((n : Int) - 1))).heap → W.os = w.os → W.tape = w.tape → W.output = w.output → DelRow2 w R r Q sp P S x (.returned (.tuple #[])) W) := Lib.hid fun W n hn hh a1 a2 a3 => by
    rw [show ((n : Int) - 1) = (((P ++ S).length : Nat) : Int) by rw [List.length_append]; omega] at hh
    obtain ⟨k1, k2⟩ := del_rows h hr e hh
    refine ⟨rfl, ⟨a1, a2, a3, ?_, fun k hk hn => ?_, fun k hk => .inl (rh_del hr e k hk)⟩, k1, ?_⟩
    · rw [hh, size_set, stS_size, stP_size]; exact Nat.le_refl _
    · exact k2 k hk (fun e => hn (.inl e)) (fun P0 y ey e2 => hn (.inr ⟨r, y, hr, by rw [e, ey]; simp, e2.symm⟩)) (fun y S0 ey e2 => hn (.inr ⟨r, y, hr, by rw [e, ey]; simp, e2.symm⟩))
    · refine k2 _ (h.lts hr hxm) hxR (fun P0 y ey e2 => ?_) (fun y S0 ey e2 => ?_)
      · have hy : y ∈ Q r := by rw [e, ey]; simp
        have := h.inj r r x y hr hr hxm hy e2
        subst this
        rw [e, ey] at hnd
        exact (List.nodup_append.1 hnd).2.2 x (by simp) x (by simp) rfl
      · have hy : y ∈ Q r := by rw [e, ey]; simp
        have := h.inj r r x y hr hr hxm hy e2
        subst this
        rw [e, ey] at hnd
        exact (List.nodup_cons.1 (List.nodup_append.1 hnd).2.1).1 (by simp)
  have hfP : ∀ P0 y, P = P0 ++ [y] → sp y ≠ sp x ∧ sp y ≠ R ∧ w.frozen? ⟨sp y, 3, none⟩ = false ∧ (∃ u, w.cell? ⟨sp y, 3, none⟩ = some u) := fun P0 y ey => by
    have hy : y ∈ Q r := by rw [e, ey]; simp
    have e3 : Q r = P0 ++ y :: (x :: S) := by rw [e, ey]; simp
    refine ⟨fun e2 => ?_, h.off r y hr hy, h.fzS hr e3 3, _, (h.spotC hr e3).2.2.2⟩
    have := h.inj r r y x hr hr hy hxm e2
    subst this
    rw [e, ey] at hnd
    exact (List.nodup_append.1 hnd).2.2 y (by simp) y (by simp) rfl
  have hfS : ∀ z S0, S = z :: S0 → sp z ≠ sp x ∧ sp z ≠ R ∧ w.frozen? ⟨sp z, 2, none⟩ = false ∧ (∃ u, w.cell? ⟨sp z, 2, none⟩ = some u) ∧ (∀ P0 y, P = P0 ++ [y] → sp y ≠ sp z) := fun z S0 ez => by
    have hz : z ∈ Q r := by rw [e, ez]; simp
    have e3 : Q r = (P ++ [x]) ++ z :: S0 := by rw [e, ez]; simp
    refine ⟨fun e2 => ?_, h.off r z hr hz, h.fzS hr e3 2, ⟨_, (h.spotC hr e3).2.2.1⟩, fun P0 y ey e2 => ?_⟩
    · have := h.inj r r z x hr hr hz hxm e2
      subst this
      rw [e, ez] at hnd
      exact (List.nodup_cons.1 (List.nodup_append.1 hnd).2.1).1 (by simp)
    · have hy : y ∈ Q r := by rw [e, ey]; simp
      have := h.inj r r y z hr hr hy hz e2
      subst this
      rw [e, ey, ez] at hnd
      exact (List.nodup_append.1 hnd).2.2 y (by simp) y (by simp) rfl
  have hn1 : 1 ≤ (Q r).length := by omega
  have hfin2 := hfin.out
  clear hfin h e hnd hxm hlen
  obtain ⟨n, hn⟩ : ∃ n, (Q r).length = n := ⟨_, rfl⟩
  have hfin2 := Lib.hid (fun W => hfin2 W n hn)
  rw [hn] at c2 hl hn1
  have i1 : (1 : Int) ≤ (n : Int) := by omega
  have i2 : (n : Int) ≤ 1000000 := by omega
  obtain ⟨u0, c0⟩ : ∃ u, w.cell? ⟨R, r * 3, none⟩ = some u := ⟨_, c0⟩
  obtain ⟨u1, c1⟩ : ∃ u, w.cell? ⟨R, r * 3 + 1, none⟩ = some u := ⟨_, c1⟩
  clear hn hl hn1 s0 s1 hr
  have hxR2 : ¬ R = sp x := fun e => hxR e.symm
  replace hxR : ¬ sp x = R := hxR
  rcases List.eq_nil_or_concat P with rfl | ⟨P0, y, rfl⟩
  · cases S with
    | nil =>
      have hfin3 : Hid (∀ W, W.heap = (((w.setCell ⟨R, r * 3, none⟩ (.pointer none)).setCell ⟨R, r * 3 + 1, none⟩ (.pointer none)).setCell ⟨R, r * 3 + 2, none⟩ (.int .i64 ((n : Int) - 1))).heap → W.os = w.os → W.tape = w.tape → W.output = w.output → DelRow2 w R r Q sp [] [] x (.returned (.tuple #[])) W) := Lib.hid hfin2.out
      simp only [List.head?_nil, List.getLast?_nil, Option.map_none, ptr] at s2 s3
      clear hfin2 hfP hfS
      generalize sp x = b at *
      go_enter Try.func64, Try.ntmps64
      go_wp2_with fail
      go_end0
      exact hfin3.out _ rfl rfl rfl rfl
    | cons z S0 =>
      obtain ⟨z1, z2, z3, ⟨u, z4⟩, _⟩ := hfS z S0 rfl
      have hfin3 : Hid (∀ W, W.heap = (((w.setCell ⟨R, r * 3, none⟩ (.pointer (some ⟨sp z, 0, none⟩))).setCell ⟨sp z, 2, none⟩ (.pointer none)).setCell ⟨R, r * 3 + 2, none⟩ (.int .i64 ((n : Int) - 1))).heap → W.os = w.os → W.tape = w.tape → W.output = w.output → DelRow2 w R r Q sp [] (z :: S0) x (.returned (.tuple #[])) W) := Lib.hid hfin2.out
      simp only [List.head?_cons, List.getLast?_nil, Option.map_none, Option.map_some, ptr] at s2 s3
      have z5 : ¬ sp x = sp z := fun e => z1 e.symm
      have z6 : ¬ R = sp z := fun e => z2 e.symm
      replace z1 : ¬ sp z = sp x := z1
      replace z2 : ¬ sp z = R := z2
      clear hfin2 hfP hfS
      generalize sp x = b at *
      generalize sp z = d at *
      go_enter Try.func64, Try.ntmps64
      go_wp2_with fail
      go_region
      all_goals go_wp2_with fail
      all_goals go_end0
      all_goals exact hfin3.out _ rfl rfl rfl rfl
  · rw [List.concat_eq_append] at *
    obtain ⟨y1, y2, y3, ⟨v, y4⟩⟩ := hfP P0 y rfl
    have y5 : ¬ sp x = sp y := fun e => y1 e.symm
    have y6 : ¬ R = sp y := fun e => y2 e.symm
    replace y1 : ¬ sp y = sp x := y1
    replace y2 : ¬ sp y = R := y2
    cases S with
    | nil =>
      have hfin3 : Hid (∀ W, W.heap = (((w.setCell ⟨sp y, 3, none⟩ (.pointer none)).setCell ⟨R, r * 3 + 1, none⟩ (.pointer (some ⟨sp y, 0, none⟩))).setCell ⟨R, r * 3 + 2, none⟩ (.int .i64 ((n : Int) - 1))).heap → W.os = w.os → W.tape = w.tape → W.output = w.output → DelRow2 w R r Q sp (P0 ++ [y]) [] x (.returned (.tuple #[])) W) := Lib.hid fun W hh => by
        refine hfin2.out W ?_
        rw [hh, stP_some]
        unfold stS
        simp [ptr]
      simp only [List.head?_nil, List.getLast?_append, List.getLast?_singleton, Option.some_or, Option.map_none, Option.map_some, ptr] at s2 s3
      clear hfin2 hfP hfS
      generalize sp x = b at *
      generalize sp y = c at *
      go_enter Try.func64, Try.ntmps64
      go_wp2_with fail
      go_still_tail 10, (by kernel_rfl)
      go_wp2_with fail
      go_end0
      exact hfin3.out _ rfl rfl rfl rfl
    | cons z S0 =>
      obtain ⟨z1, z2, z3, ⟨u, z4⟩, z7⟩ := hfS z S0 rfl
      have z8 := z7 P0 y rfl
      have z9 : ¬ sp z = sp y := fun e => z8 e.symm
      replace z8 : ¬ sp y = sp z := z8
      clear z7
      have hfin3 : Hid (∀ W, W.heap = (((w.setCell ⟨sp y, 3, none⟩ (.pointer (some ⟨sp z, 0, none⟩))).setCell ⟨sp z, 2, none⟩ (.pointer (some ⟨sp y, 0, none⟩))).setCell ⟨R, r * 3 + 2, none⟩ (.int .i64 ((n : Int) - 1))).heap → W.os = w.os → W.tape = w.tape → W.output = w.output → DelRow2 w R r Q sp (P0 ++ [y]) (z :: S0) x (.returned (.tuple #[])) W) := Lib.hid fun W hh => by
        refine hfin2.out W ?_
        rw [hh, stP_some]
        unfold stS
        simp [ptr]
      simp only [List.head?_cons, List.getLast?_append, List.getLast?_singleton, Option.some_or, Option.map_some, ptr] at s2 s3
      have z5 : ¬ sp x = sp z := fun e => z1 e.symm
      have z6 : ¬ R = sp z := fun e => z2 e.symm
      replace z1 : ¬ sp z = sp x := z1
      replace z2 : ¬ sp z = R := z2
      clear hfin2 hfP hfS
      generalize sp x = b at *
      generalize sp y = c at *
      generalize sp z = d at *
      go_enter Try.func64, Try.ntmps64
      go_wp2_with fail
      go_still_tail 10, (by kernel_rfl)
      go_wp2_with fail
      go_region
      all_goals go_wp2_with fail
      all_goals go_end0
      all_goals exact hfin3.out _ rfl rfl rfl rfl
end Ce
end Go.Proofs.Ytejijddhmckgiaa
