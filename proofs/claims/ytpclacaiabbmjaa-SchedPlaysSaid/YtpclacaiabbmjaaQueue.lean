/- Goroutines in common as they lie in memory: a row that may begin in the midst of its block; what the reading calls of package queue answer, and the library's Clone and Index. -/
import Derived.Test.YtpclacaiabbmjaaHome
import Derived.Deep.Upon
namespace Go.Proofs.Ytpclacaiabbmjaa
open Go.RowKit Go.Lib Fx Ho
set_option linter.unusedVariables false
namespace Qu

/-- The slice v holds the numbers zs, somewhere in a block of its own, its room within it. -/
def OffRow (w : World) (v : Value) (zs : List Int) : Prop :=
  ∃ ao b off cap, v = .slice ao zs.length cap ∧ Came w 1 ao b off zs.length cap (cells zs) ∧ (cap ≤ maxLen ∧ ∀ j, j < cap → w.frozen? ⟨b, off + j, none⟩ = false) ∧ (ao = some ⟨b, off, none⟩ ∧ b < w.heap.size ∨ ao = none ∧ cap = 0)
def home (p : Nat) (v : Value) : Home := fun k => k = p ∨ v.ownBlock = some k
structure IsQ (w : World) (p : Nat) (v : Value) (zs : List Int) : Prop where
  head : w.heap[p]? = some (.cells #[v] 124 (0, 0))
  row : OffRow w v zs
  off : v.ownBlock ≠ some p
variable {w w' : World} {p : Nat} {v : Value} {zs : List Int} {H H' : Home}
theorem offrow_nil (w : World) : OffRow w (.slice none 0 0) [] := ⟨none, 0, 0, 0, rfl, ⟨by decide, fun h => (by omega), fun h => (by omega), rfl, fun j u h => (by simp [cells] at h), fun j h => (by omega)⟩, ⟨by decide, fun j h => by omega⟩, .inr ⟨rfl, rfl⟩⟩
theorem OffRow.wrote (h : OffRow w v zs) (ht : Wrote H w H' w') (ho : ∀ k, v.ownBlock = some k → ¬ H k) : OffRow w' v zs := by
  obtain ⟨ao, b, off, cap, rfl, hc, hm, hxx⟩ := h
  have hb : 0 < cap → w'.heap[b]? = w.heap[b]? := fun h0 => by
    have ha := hc.addr h0
    subst ha
    exact ht.block b (hc.lt h0) (ho b rfl)
  refine ⟨ao, b, off, cap, rfl, ⟨hc.le, hc.addr, fun h0 => Nat.lt_of_lt_of_le (hc.lt h0) ht.size, hc.oldsLen, fun j u hj => ?_, fun j hj => ?_⟩, ⟨hm.1, fun j hj => by rw [World.frozen?_of_block (a := ⟨b, off + j, none⟩) (hb (by omega))]; exact hm.2 j hj⟩, hxx.imp (fun e => ⟨e.1, Nat.lt_of_lt_of_le e.2 ht.size⟩) id⟩
  · have hl := (List.getElem?_eq_some_iff.1 hj).1
    rw [hc.oldsLen] at hl
    have hle := hc.le
    rw [World.cell?_of_block (a := ⟨b, off + j, none⟩) (hb (by omega))]
    exact hc.olds j u hj
  · have h0 : 0 < cap := by omega
    rw [World.cell?_of_block (a := ⟨b, off + zs.length * 1 + j, none⟩) (hb h0), World.frozen?_of_block (a := ⟨b, off + zs.length * 1 + j, none⟩) (hb h0)]
    exact hc.spare j hj
theorem OffRow.cell (h : OffRow w v zs) : ∃ ao b off cap, v = .slice ao zs.length cap ∧ zs.length ≤ cap ∧ cap ≤ maxLen ∧ (0 < cap → ao = some ⟨b, off, none⟩ ∧ b < w.heap.size) ∧ ∀ i, i < zs.length → w.cell? ⟨b, off + i, none⟩ = some (.int .i64 (zs.getD i 0)) := by
  obtain ⟨ao, b, off, cap, rfl, hc, hm, hxx⟩ := h
  refine ⟨ao, b, off, cap, rfl, hc.le, hm.1, fun h0 => ⟨hc.addr h0, hc.lt h0⟩, fun i hi => hc.olds i _ ?_⟩
  unfold cells
  rw [List.getElem?_map, List.getD_eq_getElem?_getD, List.getElem?_eq_getElem hi]; rfl
theorem OffRow.ints (h : OffRow w v zs) : Ints w (fun k => v.ownBlock = some k) v zs := by
  obtain ⟨ao, b, off, cap, rfl, hle, hm, ha, hcell⟩ := h.cell
  refine ⟨_, cap, rfl, by unfold maxLen at hm; omega, fun i hi => ?_⟩
  obtain ⟨rfl, hb⟩ := ha (by omega)
  exact ⟨b, off, rfl, rfl, hb, hcell i hi⟩
theorem OffRow.lt {k : Nat} (h : OffRow w v zs) (hk : v.ownBlock = some k) : k < w.heap.size := by
  obtain ⟨ao, b, off, cap, rfl, hc, hm, hxx⟩ := h
  rcases hxx with ⟨rfl, hb⟩ | ⟨rfl, _⟩
  · obtain rfl : b = k := Option.some.inj hk
    exact hb
  · cases hk
theorem OffRow.slice (h : OffRow w v zs) : ∃ sp cap, v = .slice sp zs.length cap := by
  obtain ⟨ao, b, off, cap, rfl, _⟩ := h
  exact ⟨_, _, rfl⟩
theorem tape_setCells (b : Nat) : ∀ (vs : List Value) (o : Nat) (w : World), (w.setCells b o vs).tape = w.tape
  | [], _, _ => rfl
  | v :: r, o, w => by rw [World.setCells, tape_setCells b r]; simp
/-- n numbers more at the end of a row that may begin in the midst of its block. -/
theorem append_off (h : OffRow w v zs) (x : Value) (ys : List Int) (hs : Src Try.prog 1 41 x ys.length (cells ys) w) (hn : zs.length + ys.length ≤ 1000000) :
    ∃ v' w', (Builtin.append_ #[41, 41] 41 #[v, x]).run Try.prog w = .ok v' w' ∧ OffRow w' v' (zs ++ ys) ∧ Wrote (fun k => v.ownBlock = some k) w (fun k => v'.ownBlock = some k) w' := by
  obtain ⟨i0, hi, hz0, hz1, hz2⟩ := info_parts infoI
  obtain ⟨ao, b, off, cap, rfl, hc, hm, hxx⟩ := h
  have hmx : (1000000 : Nat) ≤ maxLen := by unfold maxLen; omega
  obtain ⟨v', w', hr, hu⟩ := run_append_upon (P := Try.prog) hc 41 41 41 i0 (.int .i64 0) 8 Try.underlying41 hi hz0 hz1 hz2 rfl (Upon.start (e := 3) hc) x ys.length (cells ys) hs (by omega) (by omega)
  have htape : w'.tape = w.tape := by
    by_cases hfit : zs.length + ys.length ≤ cap
    · rcases Nat.eq_zero_or_pos cap with h0 | hcap
      · have h1 : ys.length = 0 := by omega
        have h2 : ys = [] := List.eq_nil_of_length_eq_zero h1
        subst h2
        have := run_append_nothing (P := Try.prog) w 41 41 41 3 i0 Try.underlying41 hi ao zs.length cap hc.le x (by rw [hz1]; exact hs)
        rw [this] at hr
        cases hr; rfl
      · have ha := hc.addr hcap
        subst ha
        have := run_append_room_src (P := Try.prog) w 41 41 41 3 i0 Try.underlying41 hi b off zs.length cap x ys.length (cells ys) (by rw [hz1]; exact hs) hfit
          (fun j hj => by rw [hz1]; rw [cells_len] at hj; exact (hc.spare j (by omega)).1) (fun j hj => by rw [hz1]; rw [cells_len] at hj; exact (hc.spare j (by omega)).2)
        rw [this] at hr
        cases hr
        exact tape_setCells _ _ _ _
    · have := run_append_grow_src (P := Try.prog) w 41 41 41 3 i0 (.int .i64 0) Try.underlying41 hi hz0 ao zs.length cap (cells zs) (by
          rw [hz1]
          rcases Nat.eq_zero_or_pos cap with h0 | hcap
          · have h1 : zs.length = 0 := by have := hc.le; omega
            have h2 : zs = [] := List.eq_nil_of_length_eq_zero h1
            subst h2
            cases ao with
            | none => exact run_firstCells_none w.drew 1 0 0 cap
            | some a' => exact run_firstCells_some w.drew 1 0 a' 0 cap [] (by simp) (by intro _ _ h'; simp at h')
          · rw [hc.addr hcap]
            refine run_firstCells_some w.drew 1 zs.length ⟨b, off, none⟩ zs.length cap (cells zs) hc.oldsLen (fun j u hj => ?_)
            rw [addr_add]
            exact hc.olds j u hj) x ys.length (cells ys) (by rw [hz1]; exact hs) (by omega) (by omega) (growslice_fits (by omega) (by rw [hz2]; omega))
      rw [this] at hr
      cases hr; rfl
  have hsz := hu.kept.size
  have hlen : (zs ++ ys).length = zs.length + (0 + ys.length) := by rw [List.length_append]; omega
  have hcl : (cells zs ++ ([] ++ cells ys)) = cells (zs ++ ys) := by rw [cells_app]; rfl
  have hcn : (cells (zs ++ ys)).length = zs.length + ys.length := by rw [cells_len, List.length_append]
  refine ⟨v', w', hr, ?_, ⟨hu.kept.1, htape, hu.kept.2.1, hsz, fun k hk hno => ?_, fun k hk => ?_⟩⟩
  · rcases hu.val with ⟨hle, rfl, hq⟩ | ⟨hgt, g, c', rfl, ho⟩
    · refine ⟨ao, b, off, cap, by rw [hlen], ⟨by omega, hc.addr, fun h0 => Nat.lt_of_lt_of_le (hc.lt h0) hsz, by omega, fun j u hj => ?_, fun j hj => ?_⟩, ⟨hm.1, fun j hj => (hu.frozen ⟨b, off + j, none⟩ (hc.lt (by omega))).trans (hm.2 j hj)⟩, hxx.imp (fun e => ⟨e.1, Nat.lt_of_lt_of_le e.2 hsz⟩) id⟩
      · have hl := (List.getElem?_eq_some_iff.1 hj).1
        rw [hu.inArray hc (by omega) hq j (by omega), hcl]
        exact hj
      · have h0 : 0 < cap := by omega
        have e1 : off + (zs ++ ys).length * 1 + j = off + zs.length * 1 + (ys.length + j) := by omega
        rw [e1, hu.old (hc.lt h0) (fun j' h1 ⟨_, h2⟩ => by rw [hq] at h1; simp only [List.nil_append, cells_len] at h1; omega), hu.frozen ⟨b, _, none⟩ (hc.lt h0)]
        exact hc.spare _ (by omega)
    · refine ⟨some ⟨g, 0, none⟩, g, 0, c', by rw [hlen], ⟨by have := ho.le; omega, fun _ => rfl, fun h0 => ?_, by omega, fun j u hj => ?_, fun j hj => ?_⟩, ⟨ho.max, fun j hj => by rw [Nat.zero_add]; exact (ho.there j (by omega)).2⟩, .inl ⟨rfl, World.block_lt_of_cell? _ _ (Option.isSome_iff_exists.1 (ho.there 0 (by have := ho.le; omega)).1).choose_spec⟩⟩
      · exact World.block_lt_of_cell? _ _ (Option.isSome_iff_exists.1 (ho.there 0 (by omega)).1).choose_spec
      · have hl := (List.getElem?_eq_some_iff.1 hj).1
        rw [Nat.zero_add, ho.holds j (by omega), hcl]
        exact hj
      · have := ho.there ((zs ++ ys).length + j) (by omega)
        rw [show 0 + (zs ++ ys).length * 1 + j = (zs ++ ys).length + j by omega]
        exact this
  · refine hu.kept.block hk (fun p hp e => ?_)
    obtain ⟨j, hj, rfl⟩ := hp
    obtain rfl : b = k := e
    exact hno (by rw [hc.addr (hu.capPos hj)]; rfl)
  · rcases hu.val with ⟨hle, rfl, hr⟩ | ⟨hgt, g, c', rfl, ho⟩
    · exact Or.inl (by cases ao <;> exact hk)
    · exact Or.inr (by obtain rfl : g = k := Option.some.inj hk; exact ho.new)
namespace IsQ
theorem wrote (h : IsQ w p v zs) (ht : Wrote H w H' w') (ho : Off (home p v) H) : IsQ w' p v zs :=
  ⟨by rw [ht.block p (block_lt h.head) (fun h' => ho p (Or.inl rfl) h')]; exact h.head, h.row.wrote ht (fun k hk h' => ho k (Or.inr hk) h'), h.off⟩
theorem below (h : IsQ w p v zs) (hb : Below w.heap.size w w') : IsQ w' p v zs := h.wrote (H := fun _ => False) (Wrote.of_below hb) (fun _ _ h => h)
theorem home_lt {k : Nat} (h : IsQ w p v zs) (hk : home p v k) : k < w.heap.size := hk.elim (fun e => by rw [show k = p from e]; exact block_lt h.head) (fun e => h.row.lt e)
theorem c0 (h : IsQ w p v zs) : w.cell? ⟨p, 0, none⟩ = some v := cell_of h.head rfl
theorem fz (h : IsQ w p v zs) : w.frozen? ⟨p, 0, none⟩ = false := frozen_of_row w p 0 _ _ h.head
end IsQ
set_option maxRecDepth 100000 in
theorem new_any (w : World) : Calls Try.prog 57 #[] w fun e w' => e = .returned (.pointer (some ⟨w.heap.size, 0, none⟩)) ∧ Below w.heap.size w w' ∧ IsQ w' w.heap.size (.slice none 0 0) [] := by
  have hend : Hid (IsQ (w.alloc (.cells #[.slice none 0 0] 124)) w.heap.size (.slice none 0 0) []) := ⟨heap_alloc_new _ _, offrow_nil _, by intro e; cases e⟩
  have hb := Lib.hid (below_alloc (Below.refl w.heap.size w) (.cells #[.slice none 0 0] 124))
  have h0 : Try.prog.built 124 [] = some #[.slice none 0 0] := by kernel_rfl
  generalize (#[.slice none 0 0] : Array Value) = R0 at *
  go_enter Try.func57, Try.ntmps57
  go_wp2_with (refine wpList_built rfl 124 #[] rfl R0 (by simpa using h0) ?_)
  go_ret
  exact ⟨rfl, hb.out, hend.out⟩
set_option maxRecDepth 100000 in
theorem len_nil (w : World) : Calls Try.prog 73 #[.pointer none] w (Still (.int .i64 0) w) := by
  go_enter Try.func73, Try.ntmps73
  go_wp2_with fail
  go_ret
  exact ⟨rfl, rfl⟩
set_option maxRecDepth 100000 in
theorem len_any (w : World) (h : IsQ w p v zs) : Calls Try.prog 73 #[.pointer (some ⟨p, 0, none⟩)] w (Still (.int .i64 zs.length) w) := by
  have c0 := h.c0
  obtain ⟨sp, cap, rfl⟩ := h.row.slice
  clear h
  generalize zs.length = n at *
  go_enter Try.func73, Try.ntmps73
  go_wp2_with fail
  go_ret
  exact ⟨rfl, rfl⟩
set_option maxRecDepth 100000 in
theorem get_nil (a b : Int) (w : World) : Calls Try.prog 129 #[.pointer none, .int .i64 a, .int .i64 b] w (Still (.slice none 0 0) w) := by
  go_enter Try.func129, Try.ntmps129
  go_wp2_with fail
  go_ret
  exact ⟨rfl, rfl⟩
set_option maxRecDepth 100000 in
theorem clone_nil (w : World) : Calls Try.prog 108 #[.slice none 0 0] w (Still (.slice none 0 0) w) := by
  have he : ∀ W : World, Sem.run Try.prog (binOp BinOp.eql 41 (.slice none 0 0) (.slice none 0 0)) W = Result.ok (.bool true) W := fun W => by rfl
  go_enter Try.func108, Try.ntmps108
  go_wp2_with fail
  go_ret
  exact ⟨rfl, rfl⟩
theorem own_empty {W : World} {lo N : Nat} (h : W.heap[N]? = some (.cells #[] 3 (0, 0))) (hN : lo ≤ N) : W.ownsRow lo 3 1 (.slice (some ⟨N, 0, none⟩) 0 0) 0 [] :=
  ⟨rfl, Or.inr ⟨N, 0, #[], rfl, hN, h, Nat.le_refl _, by unfold maxLen; omega, rfl, rfl⟩⟩
set_option maxRecDepth 100000 in
set_option maxHeartbeats 1000000 in
theorem clone_any {g o n cap : Nat} (hn : zs.length = n) (hs : n ≤ 1000000) (hcell : ∀ i, i < n → w.cell? ⟨g, o + i, none⟩ = some (.int .i64 (zs.getD i 0))) :
    Calls Try.prog 108 #[.slice (some ⟨g, o, none⟩) n cap] w fun e w' => ∃ v', e = .returned v' ∧ Below w.heap.size w w' ∧ w'.ownsRow w.heap.size 3 1 v' n (cells zs) := by
  obtain ⟨i0, hi, hz0, hz1, hz2⟩ := info_parts infoI
  have hcl : (cells zs).length = n * 1 := by rw [cells_len]; omega
  have hnews : Hid (∀ j u, (cells zs)[j]? = some u → (w.alloc (.cells #[] 3)).cell? ((⟨g, o, none⟩ : Addr).add j) = some u) := fun j u hj => by
    have hj2 : j < n := by
      rcases Nat.lt_or_ge j n with h | h
      · exact h
      · rw [List.getElem?_eq_none (by omega)] at hj; cases hj
    have hc := hcell j hj2
    rw [addr_add]
    rw [cell_then (below_alloc (Below.refl _ _) _) hc, ← hj]
    unfold cells
    rw [List.getElem?_map, List.getD_eq_getElem?_getD, List.getElem?_eq_getElem (by omega)]; rfl
  have hone := Lib.hid (cells_one zs)
  have hemp := Lib.hid (own_empty (lo := w.heap.size) (heap_alloc_new w (.cells #[] 3)) (Nat.le_refl _))
  have hend : Hid (∀ (W : World) (v' : Value), W.ownsRow w.heap.size 3 1 v' (0 + n) ([] ++ cells zs) → (w.alloc (.cells #[] 3)).grownBy W (Value.slice (some ⟨w.heap.size, 0, none⟩) 0 0).ownBlock → Hid (Below w.heap.size w W ∧ W.ownsRow w.heap.size 3 1 v' n (cells zs))) := fun W v' h1 h2 => by
    rw [Nat.zero_add, List.nil_append] at h1
    exact ⟨(below_alloc (Below.refl _ _) _).trans (Below.grown (Below.refl _ _) h2 (by show _ ≤ (w.heap.push _).size; rw [Array.size_push]; omega) (fun k hk => Nat.le_of_eq (Option.some.inj hk))), h1⟩
  have he : ∀ W : World, Sem.run Try.prog (binOp BinOp.eql 41 (.slice (some ⟨g, o, none⟩) n cap) (.slice none 0 0)) W = Result.ok (.bool false) W := fun W => by rfl
  clear hcell hn
  generalize cells zs = CZ at *
  go_enter Try.func108, Try.ntmps108
  go_wp2_with (at_builtin; refine wpList_append_own _ rfl _ _ 41 rfl w.heap.size 3 i0 (.int .i64 0) 1 8 Try.underlying41 hi hz0 hz1 hz2 rfl (by decide) _ 0 [] rfl hemp.out ⟨g, o, none⟩ n cap CZ rfl hcl hnews.out hone.out (by unfold maxLen; omega) (by omega) (by show _ ≤ (w.heap.push _).size; rw [Array.size_push]; omega) ?_; intro v' w1 hown1 hgrow1 hnil; clear hnil; have hfin := hend.out w1 v' hown1 hgrow1; clear hown1 hgrow1 hend)
  go_ret
  exact ⟨_, rfl, hfin.out⟩
/-- The queue as it is once its row is another one. -/
theorem IsQ.stored (h : IsQ w p v zs) {W1 W : World} {v1 : Value} {zs2 : List Int} (hr : OffRow W1 v1 zs2) (hw : Wrote (fun k => v.ownBlock = some k) w (fun k => v1.ownBlock = some k) W1) (hh : W = W1.setCell ⟨p, 0, none⟩ v1) :
    Wrote (home p v) w (home p v1) W ∧ IsQ W p v1 zs2 := by
  subst hh
  have hp := block_lt h.head
  have hd : W1.heap[p]? = w.heap[p]? := hw.block p hp h.off
  have hoff : v1.ownBlock ≠ some p := fun e => (hw.home p e).elim h.off (fun h2 => by omega)
  have hw2 : Wrote (fun k => k = p) W1 (fun k => k = p) (W1.setCell ⟨p, 0, none⟩ v1) := wrote_setCell (H := fun k => k = p) (a := ⟨p, 0, none⟩) (u := v1) rfl rfl rfl rfl rfl
  refine ⟨⟨hw2.os.trans hw.os, hw2.tape.trans hw.tape, hw2.output.trans hw.output, Nat.le_trans hw.size hw2.size, fun k hk hn => (hw2.block k (Nat.lt_of_lt_of_le hk hw.size) (fun e => hn (Or.inl e))).trans (hw.block k hk (fun e => hn (Or.inr e))), fun k hk => ?_⟩, ⟨?_, hr.wrote hw2 (fun k hk e => hoff (by rw [hk, e])), hoff⟩⟩
  · rcases hk with hk | hk
    · exact Or.inl (Or.inl hk)
    · exact (hw.home k hk).elim (fun h2 => Or.inl (Or.inr h2)) Or.inr
  · rw [heap_setCell_same _ p 0 _ _ _ (hd.trans h.head)]; rfl
theorem src_of_ints {S : Home} {x : Value} {ys : List Int} (h : Ints w S x ys) : Src Try.prog 1 41 x ys.length (cells ys) w := by
  obtain ⟨sp, cap, rfl, _, hi⟩ := h
  cases ys with
  | nil =>
    cases sp with
    | none => exact Src.ofNil w Try.underlying41 cap
    | some a => exact Src.ofSlice w Try.underlying41 a 0 cap [] rfl (fun j u hj => by simp at hj) (fun u hu => by simp at hu)
  | cons y r =>
    obtain ⟨b, off, rfl, _, _, _⟩ := hi 0 (by simp)
    refine Src.ofSlice w Try.underlying41 ⟨b, off, none⟩ _ cap _ (by rw [cells_len]; omega) (fun j u hj => ?_) (cells_one _)
    have hl := (List.getElem?_eq_some_iff.1 hj).1
    rw [cells_len] at hl
    obtain ⟨b2, off2, e, _, _, hc⟩ := hi j hl
    cases e
    rw [addr_add, hc, ← hj]
    unfold cells
    rw [List.getElem?_map, List.getD_eq_getElem?_getD, List.getElem?_eq_getElem hl]; rfl
theorem wpList_append_off {ops : Array Oper} {rest : List Oper} {o : Oper} {a : Act} {Q : Exit → Act → World → Prop} (hgd : o.guard = none) (s x : Operand)
    (ho : o.op = .call { callee := .builtin .append, args := #[s, x], argTypes := #[41, 41] }) (hty : o.type = 41) {v xv : Value} {zs ys : List Int} (h : OffRow w v zs) (hv : a.eval s = v) (hx : a.eval x = xv)
    (hs : Src Try.prog 1 41 xv ys.length (cells ys) w) (hn : zs.length + ys.length ≤ 1000000)
    (hK : ∀ v' w', OffRow w' v' (zs ++ ys) → Wrote (fun k => v.ownBlock = some k) w (fun k => v'.ownBlock = some k) w' → wpList Try.prog ops Q rest (a.put o.dst v') w') : wpList Try.prog ops Q (o :: rest) a w := by
  refine wpList_plain hgd fun K hK' => ?_
  obtain ⟨v', w', hr, h1, h2⟩ := append_off h xv ys hs hn
  unfold Oper.wp
  simp [execOp, ho, resolve, invoke, builtin, hv, hx, hty, hr, Result.andThen]
  exact hK' _ _ (hK v' w' h1 h2)
def Turns (r : Value) (w : World) (p : Nat) (v : Value) (zs : List Int) (e : Ending) (w' : World) : Prop := e = .returned r ∧ ∃ v', Wrote (home p v) w (home p v') w' ∧ IsQ w' p v' zs
set_option maxRecDepth 100000 in
set_option maxHeartbeats 1000000 in
theorem put_any (w : World) (h : IsQ w p v zs) {S : Home} {x : Value} {ys : List Int} (hx : Ints w S x ys) (hn : zs.length + ys.length ≤ 1000000) :
    Calls Try.prog 60 #[.pointer (some ⟨p, 0, none⟩), x] w (Turns (.tuple #[]) w p v (zs ++ ys)) := by
  have c0 := h.c0
  have hs := Lib.hid (src_of_ints hx)
  obtain ⟨sx, cx, rfl, _⟩ := hx
  have hrow := Lib.hid h.row
  obtain ⟨sp, cap, rfl⟩ := h.row.slice
  have key : Hid (∀ v1 w1, OffRow w1 v1 (zs ++ ys) → Wrote (fun k => (Value.slice sp zs.length cap).ownBlock = some k) w (fun k => v1.ownBlock = some k) w1 →
      w1.cell? ⟨p, 0, none⟩ = some (.slice sp zs.length cap) ∧ w1.frozen? ⟨p, 0, none⟩ = false ∧ Hid (Turns (.tuple #[]) w p (.slice sp zs.length cap) (zs ++ ys) (.returned (.tuple #[])) (w1.setCell ⟨p, 0, none⟩ v1))) := fun v1 w1 h1 h2 => by
    have hd : w1.heap[p]? = some (.cells #[.slice sp zs.length cap] 124 (0, 0)) := (h2.block p (block_lt h.head) h.off).trans h.head
    exact ⟨cell_of hd rfl, frozen_of_row w1 p 0 _ _ hd, rfl, v1, h.stored h1 h2 rfl⟩
  clear h
  go_enter Try.func60, Try.ntmps60
  go_wp2_with (at_builtin; refine wpList_append_off rfl (.tmp 10) (.tmp 11) rfl rfl hrow.out rfl rfl hs.out hn ?_; intro v1 w1 hrow1 hw1; have hk := key.out v1 w1 hrow1 hw1; obtain ⟨f0, ff, hfin⟩ := hk; obtain ⟨sp1, cap1, rfl⟩ := hrow1.slice; clear hrow1 hw1 key hrow hs)
  go_end0
  have hz := hfin.out
  rw [List.length_append] at hz
  exact hz
end Qu
end Go.Proofs.Ytpclacaiabbmjaa
