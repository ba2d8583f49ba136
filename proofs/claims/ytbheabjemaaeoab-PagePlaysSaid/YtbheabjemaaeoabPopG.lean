/- A Pages' block with its heap of runs; the heap's own Pop and Push. -/
import Derived.Test.YtbheabjemaaeoabUpJG
namespace Go.Proofs.Ytbheabjemaaeoab
open Go.RowKit Go.Lib Fx Ho Gr
set_option linter.unusedVariables false
namespace Pg
open Hm
variable {w w' : World} {P : Nat} {v fv mv : Value} {L M ys : List Rn} {H H' : Home} {x : Rn}
theorem eltG : Elt Try.prog 47 52 1 8 (.pointer none) := ⟨Try.underlying47, by kernel_rfl, rfl, by decide, by decide⟩
/-- Pages at P: which are free, the heap L behind the row v, the ends. -/
structure Pq (w : World) (P : Nat) (fv v mv : Value) (L : List Rn) : Prop where
  head : w.heap[P]? = some (.cells #[fv, v, mv] 49 (0, 0))
  pile : IsG w P v L
def home2 (P : Nat) (v : Value) (L : List Rn) : Home := fun k => k = P ∨ home v L k
theorem Pq.wrote (h : Pq w P fv v mv L) (ht : Wrote H w H' w') (hP : ¬ H P) (ho : Off (home v L) H) : Pq w' P fv v mv L :=
  ⟨(ht.block P h.pile.lt hP).trans h.head, h.pile.wrote ht hP ho⟩
theorem Pq.below (h : Pq w P fv v mv L) (hb : Below w.heap.size w w') : Pq w' P fv v mv L := ⟨(hb.block P h.pile.lt).trans h.head, h.pile.below hb⟩
theorem not_P (h : IsG w P v L) : ¬ home v L P := fun hh => hh.elim h.off (fun ⟨r, hr, e⟩ => (h.offb r hr).2 e)
theorem Pq.turn (h : Pq w P fv v mv L) (hp : IsG w' P v M) (hw : Wrote (home v L) w (home v L) w') : Pq w' P fv v mv M :=
  ⟨(hw.block P h.pile.lt (not_P h.pile)).trans h.head, hp⟩
theorem wide (hw : Wrote (home v L) w (home v L) w') : Wrote (home2 P v L) w (home2 P v L) w' := wider hw (fun k hk => .inr hk)
theorem Pq.home_lt (h : Pq w P fv v mv L) {k : Nat} (hk : home2 P v L k) : k < w.heap.size := hk.elim (fun e => e ▸ h.pile.lt) (fun hk => h.pile.home_lt hk)
/-- Another row in its place. -/
theorem Pq.row {v1 : Value} (hh : w.heap[P]? = some (.cells #[fv, v, mv] 49 (0, 0))) (hr : GRow 1 w v1 M.length (ps M)) (ha : ∀ i, i < M.length → w.heap[(M.getD i Rn.rn0).2.2]? = some (robj (M.getD i Rn.rn0) i)) (ho : v1.ownBlock ≠ some P) (hb : ∀ r, r ∈ M → v1.ownBlock ≠ some r.2.2 ∧ r.2.2 ≠ P) (h1 : ∀ i j, i < M.length → j < M.length → (M.getD i Rn.rn0).2.2 = (M.getD j Rn.rn0).2.2 → i = j) (hs : M.length ≤ 1000) : Pq (w.setCell ⟨P, 1, none⟩ v1) P fv v1 mv M := by
  have w1 := wr1 w P 1 v1
  have e : (w.setCell ⟨P, 1, none⟩ v1).heap[P]? = some (.cells #[fv, v1, mv] 49 (0, 0)) := by
    rw [heap_setCell_same _ P 1 _ _ _ hh]; rfl
  exact ⟨e, cell_of e rfl, frozen_of_row _ P 1 _ _ e, block_lt e, hr.wrote w1 (fun k hk e => ho (by rw [← show k = P from e]; exact hk)), fun i hi => (w1.block _ (block_lt (ha i hi)) (fun e => (hb _ (mem_at hi)).2 e)).trans (ha i hi), ho, hb, h1, hs⟩
def Popm (w : World) (P : Nat) (fv v mv : Value) (L : List Rn) (k : Nat) (e : Ending) (w' : World) : Prop := e = .returned (.iface 52 (.pointer (some ⟨(L.getD k Rn.rn0).2.2, 0, none⟩))) ∧ ∃ v', Pq w' P fv v' mv (L.take k) ∧ Wrote (home2 P v L) w (home2 P v' (L.take k)) w' ∧ w'.heap[(L.getD k Rn.rn0).2.2]? = some (robj (L.getD k Rn.rn0) k) ∧ ¬ home v' (L.take k) (L.getD k Rn.rn0).2.2
theorem take_at {k i : Nat} (hi : i < k) : (L.take k).getD i Rn.rn0 = L.getD i Rn.rn0 := by
  simp only [List.getD_eq_getElem?_getD]
  rw [List.getElem?_take, if_pos hi]
set_option maxRecDepth 100000 in
set_option maxHeartbeats 1000000 in
/-- The heap's own Pop: the last one. -/
theorem popm_any (h : Pq w P fv v mv L) {k : Nat} (hn : L.length = k + 1) : Calls Try.prog 72 #[.pointer (some ⟨P, 1, none⟩)] w (Popm w P fv v mv L k) := by
  have h0 := h
  have hk : k < L.length := by omega
  obtain ⟨b, off, cap, rfl, hle, hm, hbl, hc⟩ := h.pile.place hk
  obtain ⟨c0, f0⟩ := hc k hk
  have hp := h.pile.cell
  have fp := h.pile.free
  have hob : ¬ b = P := fun e => h.pile.off (by rw [e]; rfl)
  have hbo : ¬ P = b := fun e => hob e.symm
  have hlt : (L.take k).length = k := by rw [List.length_take]; omega
  have hx2 := (h.pile.offb _ (mem_at hk))
  have hfin : Hid (Popm w P fv (.slice (some ⟨b, off, none⟩) L.length cap) mv L k (.returned (.iface 52 (.pointer (some ⟨(L.getD k Rn.rn0).2.2, 0, none⟩)))) ((w.setCell ⟨b, off + k, none⟩ (.pointer none)).setCell ⟨P, 1, none⟩ (.slice (some ⟨b, off, none⟩) k cap))) := Lib.hid (by
    have r1 := h0.pile.row.set (u := .pointer none) (j := k) (by omega)
    have r2 := r1.take (k := k) (by omega)
    have e1 : ((ps L).set k (.pointer none)).take (k * 1) = ps (L.take k) := by
      unfold ps
      rw [Nat.mul_one, List.take_set_of_le (by omega), List.map_take]
    rw [e1] at r2
    have w1 := wr1 w b (off + k) (.pointer none)
    have hd := (w1.block P h0.pile.lt hbo).trans h0.head
    have ha : ∀ i, i < L.length → (w.setCell ⟨b, off + k, none⟩ (.pointer none)).heap[(L.getD i Rn.rn0).2.2]? = some (robj (L.getD i Rn.rn0) i) := fun i hi => (w1.block _ (h0.pile.blt (mem_at hi)) (fun e => (h0.pile.offb _ (mem_at hi)).1 (by rw [show _ = b from e]; rfl))).trans (h0.pile.at_ i hi)
    have w2 := wr1 (w.setCell ⟨b, off + k, none⟩ (.pointer none)) P 1 (.slice (some ⟨b, off, none⟩) k cap)
    refine ⟨rfl, _, Pq.row (v1 := .slice (some ⟨b, off, none⟩) k cap) (M := L.take k) hd (by rw [hlt]; exact r2) (fun i hi => ?_) (fun e => hob (Option.some.inj e)) (fun r hr => ?_) (fun i j hi hj e => ?_) (by rw [hlt]; have := h0.pile.small; omega), ?_, ?_, ?_⟩
    · rw [hlt] at hi
      rw [take_at hi]
      exact ha i (by omega)
    · exact h0.pile.offb r (List.mem_of_mem_take hr)
    · rw [hlt] at hi hj
      rw [take_at hi, take_at hj] at e
      exact h0.pile.one i j (by omega) (by omega) e
    · have w3 := (wider w1 (H' := home2 P (.slice (some ⟨b, off, none⟩) L.length cap) L) (fun q e => .inr (.inl (by rw [show q = b from e]; rfl)))).trans (wider w2 (fun q e => .inl e))
      exact w3.same (fun q hq => hq.elim .inl (fun hq => .inr (hq.elim (fun e => .inl e) (fun ⟨r, hr, e⟩ => .inr ⟨r, List.mem_of_mem_take hr, e⟩))))
    · exact (w2.block _ (block_lt (ha k hk)) (fun e => hx2.2 e)).trans (ha k hk)
    · intro hh
      rcases hh with hh | ⟨s, hs, e⟩
      · exact hx2.1 hh
      · obtain ⟨i, hi, e2⟩ := at_mem hs
        rw [hlt] at hi
        rw [← e2, take_at hi] at e
        have := h0.pile.one i k (by omega) hk e
        omega)
  unfold Popm at hfin ⊢
  generalize (L.getD k Rn.rn0).2.2 = x2 at *
  generalize hq : L.length = q at *
  subst hn
  have k0 : (0 : Int) ≤ (k : Int) := by omega
  have k1 : (k : Int) < ((k + 1 : Nat) : Int) := by omega
  clear hc h h0 hq hlt hx2 hk
  go_enter Try.func72, Try.ntmps72
  go_wp2_with fail
  go_ret
  exact ⟨rfl, hfin.out.2⟩
def Pushm (w : World) (P : Nat) (fv v mv : Value) (L : List Rn) (x : Rn) (e : Ending) (w' : World) : Prop := e = .returned (.tuple #[]) ∧ ∃ v', Pq w' P fv v' mv (L ++ [x]) ∧ Wrote (fun k => home2 P v L k ∨ k = x.2.2) w (home2 P v' (L ++ [x])) w'
/-- Where a run may lie that comes in. -/
structure New (w : World) (P : Nat) (v : Value) (L : List Rn) (x : Rn) : Prop where
  obj : ∃ a, w.heap[x.2.2]? = some (robj x a)
  notP : x.2.2 ≠ P
  off : ¬ home v L x.2.2
theorem app_at {i : Nat} (hi : i < L.length) : (L ++ [x]).getD i Rn.rn0 = L.getD i Rn.rn0 := by
  simp only [List.getD_eq_getElem?_getD]
  rw [List.getElem?_append_left hi]
theorem app_last : (L ++ [x]).getD L.length Rn.rn0 = x := by
  simp only [List.getD_eq_getElem?_getD]
  rw [List.getElem?_append_right (Nat.le_refl _), Nat.sub_self]; rfl
set_option maxRecDepth 100000 in
set_option maxHeartbeats 1000000 in
/-- The heap's own Push: one more at the end. -/
theorem pushm_any (h : Pq w P fv v mv L) (x : Rn) (hx : New w P v L x) (hs : L.length < 1000) : Calls Try.prog 73 #[.pointer (some ⟨P, 1, none⟩), .iface 52 (.pointer (some ⟨x.2.2, 0, none⟩))] w (Pushm w P fv v mv L x) := by
  obtain ⟨⟨a, ho⟩, hP, hoff⟩ := hx
  have hp := h.pile.cell
  have hta : ∀ W, (Instr.typeAssert (.iface 52 (.pointer (some ⟨x.2.2, 0, none⟩))) 20 52 false).run Try.prog W = .ok (.pointer (some ⟨x.2.2, 0, none⟩)) W := fun W => by rfl
  have x2 : w.cell? ⟨x.2.2, 2, none⟩ = some (.int .i64 a) := by unfold robj at ho; exact cell_of ho rfl
  have fx2 : w.frozen? ⟨x.2.2, 2, none⟩ = false := by unfold robj at ho; exact frozen_of_row w _ 2 _ _ ho
  have hxl := block_lt ho
  have hPx : ¬ P = x.2.2 := fun e => hP e.symm
  have hc1 : (w.setCell ⟨x.2.2, 2, none⟩ (.int .i64 L.length)).cell? ⟨P, 1, none⟩ = some v := by
    rw [World.cell?_setCell_other _ _ _ _ (show (⟨x.2.2, 2, none⟩ : Addr) ≠ ⟨P, 1, none⟩ from fun h => by cases h)]; exact hp
  have key : Hid (∀ W, W = w.setCell ⟨x.2.2, 2, none⟩ (.int .i64 L.length) → GRow 1 (W.alloc (.cells #[.pointer (some ⟨x.2.2, 0, none⟩)] 52)) v L.length (ps L) ∧ Src Try.prog 1 47 (.slice (some ⟨w.heap.size, 0, none⟩) 1 1) 1 [.pointer (some ⟨x.2.2, 0, none⟩)] (W.alloc (.cells #[.pointer (some ⟨x.2.2, 0, none⟩)] 52)) ∧ ∀ v1 w1, GRow 1 w1 v1 (L.length + 1) (ps L ++ [.pointer (some ⟨x.2.2, 0, none⟩)]) → Wrote (fun k => v.ownBlock = some k) (W.alloc (.cells #[.pointer (some ⟨x.2.2, 0, none⟩)] 52)) (fun k => v1.ownBlock = some k) w1 → (∃ s c, v1 = .slice s (L.length + 1) c) ∧ w1.cell? ⟨P, 1, none⟩ = some v ∧ w1.frozen? ⟨P, 1, none⟩ = false ∧ Hid (Pushm w P fv v mv L x (.returned (.tuple #[])) (w1.setCell ⟨P, 1, none⟩ v1))) := Lib.hid fun W hW => by
    have w1 := wr1 w x.2.2 2 (.int .i64 L.length)
    rw [← hW] at w1
    have hoW : W.heap[x.2.2]? = some (robj x L.length) := by rw [hW, heap_setCell_same _ _ 2 _ _ _ ho]; rfl
    have hPW : Pq W P fv v mv L := h.wrote w1 hPx (fun k h1 h2 => hoff (by rw [← show k = x.2.2 from h2]; exact h1))
    have hbA := below_alloc (Below.refl _ W) (.cells #[.pointer (some ⟨x.2.2, 0, none⟩)] 52)
    have hPA := hPW.below hbA
    have hoA := (hbA.block _ (block_lt hoW)).trans hoW
    have hszA := hbA.size
    refine ⟨hPA.pile.row, ?_, fun v1 w2 g1 g2 => ?_⟩
    · have h5 := heap_alloc_new W (.cells #[.pointer (some ⟨x.2.2, 0, none⟩)] 52)
      have hsz : W.heap.size = w.heap.size := by rw [hW]; simp
      rw [hsz] at h5
      exact src_new (s := 1) (A := #[.pointer (some ⟨x.2.2, 0, none⟩)]) Try.underlying47 rfl (by simp [Value.oneCell']) h5
    · generalize hA : W.alloc (.cells #[.pointer (some ⟨x.2.2, 0, none⟩)] 52) = WA at *
      have hd := (g2.block P hPA.pile.lt hPA.pile.off).trans hPA.head
      have hv1 : ∀ k, v1.ownBlock = some k → v.ownBlock = some k ∨ WA.heap.size ≤ k := g2.home
      have hvx : v.ownBlock ≠ some x.2.2 := fun e => hoff (.inl e)
      have w3 := wr1 w2 P 1 v1
      refine ⟨g1.slice, cell_of hd rfl, frozen_of_row w2 P 1 _ _ hd, Lib.hid ⟨rfl, v1, Pq.row hd (M := L ++ [x]) (by rw [List.length_append, List.length_singleton]; unfold ps at g1 ⊢; rw [List.map_append]; exact g1) (fun i hi => ?_) (fun e => (hv1 P e).elim hPA.pile.off (fun h2 => by have := hPA.pile.lt; omega)) (fun r hr => ?_) (fun i j hi hj e => ?_) (by rw [List.length_append, List.length_singleton]; omega), ?_⟩⟩
      · rw [List.length_append, List.length_singleton] at hi
        by_cases e : i < L.length
        · rw [app_at e]
          exact (g2.block _ (hPA.pile.blt (mem_at e)) (hPA.pile.offb _ (mem_at e)).1).trans (hPA.pile.at_ i e)
        · obtain rfl : i = L.length := by omega
          rw [app_last]
          exact (g2.block _ (block_lt hoA) hvx).trans hoA
      · rcases List.mem_append.1 hr with hr | hr
        · exact ⟨fun e => (hv1 _ e).elim (hPA.pile.offb r hr).1 (fun h2 => by have := hPA.pile.blt hr; omega), (hPA.pile.offb r hr).2⟩
        · obtain rfl : r = x := by simpa using hr
          exact ⟨fun e => (hv1 _ e).elim hvx (fun h2 => by have := block_lt hoA; omega), hP⟩
      · rw [List.length_append, List.length_singleton] at hi hj
        by_cases ei : i < L.length
        · by_cases ej : j < L.length
          · rw [app_at ei, app_at ej] at e; exact hPA.pile.one i j ei ej e
          · obtain rfl : j = L.length := by omega
            rw [app_at ei, app_last] at e; exact absurd (.inr ⟨_, mem_at ei, e⟩) hoff
        · obtain rfl : i = L.length := by omega
          by_cases ej : j < L.length
          · rw [app_at ej, app_last] at e; exact absurd (.inr ⟨_, mem_at ej, e.symm⟩) hoff
          · omega
      · have q1 : Wrote (fun k => home2 P v L k ∨ k = x.2.2) w (fun k => home2 P v L k ∨ k = x.2.2) w2 := ((wider w1 (fun k e => .inr e)).trans (Wrote.of_below hbA)).trans ⟨g2.os, g2.tape, g2.output, g2.size, fun k hk hn => g2.block k hk (fun e => hn (.inl (.inr (.inl e)))), fun k hk => .inl hk⟩
        have q2 := q1.trans (wider w3 (H' := fun k => home2 P v L k ∨ k = x.2.2) (fun k e => .inl (.inl e)))
        refine ⟨q2.os, q2.tape, q2.output, q2.size, q2.block, fun k hk => ?_⟩
        rcases hk with e | e | ⟨r, hr, e⟩
        · exact .inl (.inl (.inl e))
        · have hs1 := w1.size
          exact (hv1 k e).imp (fun h2 => .inl (.inr (.inl h2))) (fun h2 => by omega)
        · rcases List.mem_append.1 hr with hr | hr
          · exact .inl (.inl (.inr (.inr ⟨r, hr, e⟩)))
          · obtain rfl : r = x := by simpa using hr
            exact .inl (.inr e.symm)
  obtain ⟨s0, c0, e0⟩ := h.pile.row.slice
  have hbd : L.length + 1 ≤ 1000000 := by omega
  have key2 := key.out _ rfl
  obtain ⟨k1, k2, k3⟩ := key2
  replace k1 := Lib.hid k1
  replace k2 := Lib.hid k2
  replace k3 := Lib.hid k3
  subst e0
  generalize L.length = n at *
  clear h key ho hoff
  go_enter Try.func73, Try.ntmps73
  go_wp2_with (at_builtin; refine wpList_append_g rfl (.tmp 17) (.tmp 19) rfl rfl eltG k1.out rfl rfl k2.out hbd ?_; intro v1 w1 g1 g2; have hk := k3.out v1 w1 g1 g2; obtain ⟨⟨s1, c1, rfl⟩, hc2, hf1, hfin⟩ := hk; clear g1 g2 k1 k2 k3)
  go_end0
  exact hfin.out
end Pg
end Go.Proofs.Ytbheabjemaaeoab
