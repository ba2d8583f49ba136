/- The document's own Sched: one ring more, and New. -/
import Derived.Test.YtpclacaiabbmjaaRSch7
import Derived.Test.YtpclacaiabbmjaaSchedMore
namespace Go.Proofs.Ytpclacaiabbmjaa
open Go.RowKit Go.Lib Fx Ho Gr Rw
set_option linter.unusedVariables false
namespace Dx
open Sd (Rg rg0 rAll ptrs ptrs_len ptrs_at)
variable {w w' w1 w2 W : World} {x a i j k n : Nat} {rv rv2 lv v : Value} {A : List Nat} {R : List Rg} {C : List Int}
def no : Home := fun _ => False
theorem eltX : Elt Try.prog 44 43 1 8 (.pointer none) :=
  ⟨Try.underlying44, by kernel_rfl, rfl, by decide, by decide⟩
def ring0 : Obj := .cells #[.slice none 0 0, .slice none 0 0] 82 (0, 0)
theorem more (h : IsX no w x rv lv A R C) (hb : Below w.heap.size w w1) (ha : w.heap.size ≤ a) (hr : w1.heap[a]? = some ring0) (hg : GRow 1 w2 rv2 (R.length + 1) (ptrs A ++ [.pointer (some ⟨a, 0, none⟩)])) (hw : Wrote (fun k => rv.ownBlock = some k) w1 (fun k => rv2.ownBlock = some k) w2) :
    IsX no (w2.setCell ⟨x, 0, none⟩ rv2) x rv2 lv (A ++ [a]) (R ++ [rg0]) C ∧ Wrote (home x rv A) w (home x rv2 (A ++ [a])) (w2.setCell ⟨x, 0, none⟩ rv2) := by
  have h1 := h.below hb
  have hp := block_lt h1.head
  have hp0 := block_lt h.head
  have hal := block_lt hr
  have hd : w2.heap[x]? = w1.heap[x]? := hw.block x hp h.o1
  have hra : rv.ownBlock ≠ some a := fun e => by have := h.row.lt e; omega
  have hq1 : rv2.ownBlock ≠ some x := fun e => (hw.home x e).elim h.o1 (fun h2 => by omega)
  have hw2 : Wrote (fun k => k = x) w2 (fun k => k = x) (w2.setCell ⟨x, 0, none⟩ rv2) := wrote_setCell (H := fun k => k = x) (a := ⟨x, 0, none⟩) (u := rv2) rfl rfl rfl rfl rfl
  have hap : a ≠ x := by omega
  have hA : ∀ i, i < R.length → (A ++ [a]).getD i 0 = A.getD i 0 := fun i hi => by
    rw [List.getD_eq_getElem?_getD, List.getElem?_append_left (by rw [h.len]; exact hi), ← List.getD_eq_getElem?_getD]
  have hAn : (A ++ [a]).getD R.length 0 = a := by
    rw [List.getD_eq_getElem?_getD, List.getElem?_append_right (by rw [h.len]; exact Nat.le_refl _), h.len, Nat.sub_self]; rfl
  have hR : ∀ i, i < R.length → (R ++ [rg0]).getD i rg0 = R.getD i rg0 := fun i hi => by
    rw [List.getD_eq_getElem?_getD, List.getElem?_append_left hi, ← List.getD_eq_getElem?_getD]
  have hRn : (R ++ [rg0]).getD R.length rg0 = rg0 := by
    rw [List.getD_eq_getElem?_getD, List.getElem?_append_right (Nat.le_refl _), Nat.sub_self]; rfl
  have hlt : ∀ i, i < R.length → A.getD i 0 < w.heap.size := fun i hi => h.lt (.inr (.inr ⟨i, by rw [h.len]; exact hi, rfl⟩))
  have hlt1 : ∀ i, i < R.length → A.getD i 0 < w1.heap.size := fun i hi => Nat.lt_of_lt_of_le (hlt i hi) hb.size
  have hAa : ∀ i, i < R.length → A.getD i 0 ≠ a := fun i hi e => by have := hlt i hi; omega
  have hA2 : ∀ i, i < R.length → rv2.ownBlock ≠ some (A.getD i 0) := fun i hi e => (hw.home _ e).elim (h.o2 i hi).2 (fun h2 => by have := hlt1 i hi; omega)
  have hAn2 : rv2.ownBlock ≠ some a := fun e => (hw.home _ e).elim hra (fun h2 => by omega)
  have hl : (R ++ [rg0]).length = R.length + 1 := by simp
  refine ⟨⟨?_, ?_, by simp [h.len], fun i hi => ?_, (h1.com.wrote hw (fun k hk e => hk)).wrote hw2 (fun k hk e => hk), h.cap, fun i j hi hj e => ?_, fun e => e, fun _ _ e => e, hq1, fun i hi => ?_, fun _ _ e => e, fun i hi => ?_⟩, ⟨hw2.os.trans (hw.os.trans hb.os), hw2.tape.trans (hw.tape.trans hb.tape), hw2.output.trans (hw.output.trans hb.output), Nat.le_trans hb.size (Nat.le_trans hw.size hw2.size), fun k hk hn => ?_, fun k hk => ?_⟩⟩
  · rw [heap_setCell_same _ x 0 _ _ _ (hd.trans h1.head)]; rfl
  · rw [hl]
    have : ptrs (A ++ [a]) = ptrs A ++ [.pointer (some ⟨a, 0, none⟩)] := by unfold ptrs; rw [List.map_append]; rfl
    rw [this]
    exact hg.wrote hw2 (fun k hk e => hq1 (by rw [← show k = x from e]; exact hk))
  · rw [hl] at hi
    by_cases e : i < R.length
    · rw [hA i e, hR i e]
      obtain ⟨nv, kv, h2⟩ := h1.rg i e
      exact ⟨nv, kv, (h2.wrote hw (fun e' => (h.o2 i e).2 e') (fun _ e _ => e)).wrote hw2 (fun e' => (h.o2 i e).1 e') (fun _ e _ => e)⟩
    · obtain rfl : i = R.length := by omega
      rw [hAn, hRn]
      refine ⟨.slice none 0 0, .slice none 0 0, ?_, ints_nil _ _, ints_nil _ _, fun s n c e => by cases e; omega⟩
      rw [hw2.block a (Nat.lt_of_lt_of_le hal hw.size) hap, hw.block a hal hra]
      exact hr
  · rw [hl] at hi hj
    by_cases ei : i < R.length
    · by_cases ej : j < R.length
      · rw [hA i ei, hA j ej] at e; exact h.one i j ei ej e
      · obtain rfl : j = R.length := by omega
        rw [hA i ei, hAn] at e; exact absurd e (hAa i ei)
    · obtain rfl : i = R.length := by omega
      by_cases ej : j < R.length
      · rw [hA j ej, hAn] at e; exact absurd e.symm (hAa j ej)
      · omega
  · rw [hl] at hi
    by_cases e : i < R.length
    · rw [hA i e]; exact ⟨(h.o2 i e).1, hA2 i e⟩
    · obtain rfl : i = R.length := by omega
      rw [hAn]; exact ⟨hap, hAn2⟩
  · rw [hl] at hi
    by_cases e : i < R.length
    · rw [hR i e]; exact h.sm i e
    · obtain rfl : i = R.length := by omega
      rw [hRn]; decide
  · have hk1 : k < w1.heap.size := Nat.lt_of_lt_of_le hk hb.size
    rw [hw2.block k (Nat.lt_of_lt_of_le hk1 hw.size) (fun e => hn (Or.inl e)), hw.block k hk1 (fun e => hn (Or.inr (Or.inl e)))]
    exact hb.block k hk
  · rcases hk with hk | hk | ⟨i, hi, rfl⟩
    · exact Or.inl (Or.inl hk)
    · exact (hw.home k hk).imp (fun h2 => Or.inr (Or.inl h2)) (fun h2 => Nat.le_trans hb.size h2)
    · by_cases e : i < R.length
      · rw [hA i e]; exact Or.inl (Or.inr (Or.inr ⟨i, by rw [h.len]; exact e, rfl⟩))
      · obtain rfl : i = R.length := by simp [h.len] at hi; omega
        rw [hAn]; exact Or.inr ha
/-- New has made this. -/
def NX (n : Nat) (w : World) (x : Nat) (w' : World) : Prop := ∃ rv lv A, IsX no w' x rv lv A (List.replicate n rg0) [] ∧ Low w.heap.size (home x rv A) ∧ Below w.heap.size w w'
set_option maxRecDepth 100000 in
set_option maxHeartbeats 1000000 in
theorem new_any (n : Nat) (hn : n ≤ 64) (w : World) : Calls Try.prog 13 #[.int .i64 n] w fun e w' => ∃ x, e = .returned (.pointer (some ⟨x, 0, none⟩)) ∧ NX n w x w' := by
  have hs : Hid (∃ rv lv A, IsX no (w.alloc (.cells #[.slice none 0 0, .slice none 0 0] 48)) w.heap.size rv lv A (List.replicate 0 rg0) [] ∧ Low w.heap.size (home w.heap.size rv A) ∧ Below w.heap.size w (w.alloc (.cells #[.slice none 0 0, .slice none 0 0] 48))) := Lib.hid (by
    have hba := below_alloc (Below.refl _ w) (.cells #[.slice none 0 0, .slice none 0 0] 48)
    refine ⟨.slice none 0 0, .slice none 0 0, [], ⟨heap_alloc_new _ _, grow_nil 1 _, rfl, fun i hi => by simp at hi, ints_nil _ _, fun s n c e => by cases e; omega, fun i j hi => by simp at hi, fun e => e, fun _ _ e => e, by simp [Value.ownBlock], fun i hi => by simp at hi, fun _ _ e => e, fun i hi => by simp at hi⟩, fun k hk => ?_, hba⟩
    rcases hk with rfl | hk | ⟨i, hi, _⟩
    · exact Nat.le_refl _
    · simp [Value.ownBlock] at hk
    · simp at hi)
  have h0 : Try.prog.built 48 [] = some #[.slice none 0 0, .slice none 0 0] := by kernel_rfl
  have h1 : Try.prog.built 82 [] = some #[.slice none 0 0, .slice none 0 0] := by kernel_rfl
  have j2 : (n : Int) ≤ 64 := by omega
  go_enter Try.func13, Try.ntmps13
  go_wp2_with fail
  generalize w.alloc (.cells #[.slice none 0 0, .slice none 0 0] 48) = w3 at *
  go_loopw [4] (fun v wr => ∃ k : Nat, v = .int .i64 k ∧ k ≤ n ∧ Hid (∃ rv lv A, IsX no wr w.heap.size rv lv A (List.replicate k rg0) [] ∧ Low w.heap.size (home w.heap.size rv A) ∧ Below w.heap.size w wr)) (fun v _ => (n - (RowKit.intOf v).toNat))
  case atStart => exact ⟨0, rfl, by omega, hs⟩
  case round =>
    clear hs
    obtain ⟨k, rfl, k1, hs⟩ := hrel
    by_cases hk : k < n
    · have i2 : (k : Int) < (n : Int) := by omega
      obtain ⟨rv, lv, A, hS, hlo, hbw⟩ := hs.out
      obtain ⟨sp, cap, rfl⟩ := hS.row.slice
      have hlen : (List.replicate k rg0).length = k := List.length_replicate
      obtain ⟨c0, _, _⟩ := hS.cs
      have hxl := hS.xlt
      have hgr : Hid (∀ W, Below wr.heap.size wr W → GRow 1 W (.slice sp k cap) k (ptrs A)) := Lib.hid fun W hb => by
        have := (hS.below hb).row
        rw [hlen] at this; exact this
      have hfin : Hid (∀ W v2 w2, Below wr.heap.size wr W → W.heap[wr.heap.size]? = some ring0 → GRow 1 w2 v2 (k + 1) (ptrs A ++ [.pointer (some ⟨wr.heap.size, 0, none⟩)]) → Wrote (fun k' => (Value.slice sp k cap).ownBlock = some k') W (fun k' => v2.ownBlock = some k') w2 → (∃ s c, v2 = .slice s (k + 1) c) ∧ w2.cell? ⟨w.heap.size, 0, none⟩ = some (.slice sp k cap) ∧ w2.frozen? ⟨w.heap.size, 0, none⟩ = false ∧ Hid (∃ rv lv A, IsX no (w2.setCell ⟨w.heap.size, 0, none⟩ v2) w.heap.size rv lv A (List.replicate (k + 1) rg0) [] ∧ Low w.heap.size (home w.heap.size rv A) ∧ Below w.heap.size w (w2.setCell ⟨w.heap.size, 0, none⟩ v2))) := Lib.hid fun W v2 w2 hb hr hg hw => by
        have hd := (hw.block w.heap.size (Nat.lt_of_lt_of_le hxl hb.size) (by have := hS.o1; rw [hlen] at this; exact this)).trans ((hS.below hb).head)
        rw [hlen] at hd
        have hm := more hS (a := wr.heap.size) (rv2 := v2) (w2 := w2) hb (Nat.le_refl _) hr (by rw [hlen]; exact hg) (by rw [hlen]; exact hw)
        have hrep : List.replicate k rg0 ++ [rg0] = List.replicate (k + 1) rg0 := List.replicate_succ'.symm
        rw [hrep] at hm
        exact ⟨hg.slice, cell_of hd rfl, frozen_of_row w2 w.heap.size 0 _ _ hd, Lib.hid ⟨_, _, _, hm.1, hm.2.low hlo hbw.size, hbw.trans (Rw.below_of_wrote hm.2 hlo hbw.size)⟩⟩
      have hbA := below_alloc (Below.refl _ wr) (.cells #[.slice none 0 0, .slice none 0 0] 82)
      have hb2 := Lib.hid (below_alloc hbA (.cells #[.pointer (some ⟨wr.heap.size, 0, none⟩)] 43))
      have hnew : Hid (((wr.alloc (.cells #[.slice none 0 0, .slice none 0 0] 82)).alloc (.cells #[.pointer (some ⟨wr.heap.size, 0, none⟩)] 43)).heap[wr.heap.size]? = some ring0) := Lib.hid (old_new (below_alloc (Below.refl _ _) _))
      have hsrc : Hid (Src Try.prog 1 44 (.slice (some ⟨wr.heap.size + 1, 0, none⟩) 1 1) 1 [.pointer (some ⟨wr.heap.size, 0, none⟩)] ((wr.alloc (.cells #[.slice none 0 0, .slice none 0 0] 82)).alloc (.cells #[.pointer (some ⟨wr.heap.size, 0, none⟩)] 43))) := Lib.hid (by
        have h5 := heap_alloc_new (wr.alloc (.cells #[.slice none 0 0, .slice none 0 0] 82)) (.cells #[.pointer (some ⟨wr.heap.size, 0, none⟩)] 43)
        have := src_new (s := 1) (A := #[.pointer (some ⟨wr.heap.size, 0, none⟩)]) Try.underlying44 rfl (by simp [Value.oneCell']) h5
        simpa using this)
      rw [hlen] at c0
      have hbd : k + 1 ≤ 1000000 := by omega
      clear hlen hs hS hlo hbw hbA
      go_wp2_with (at_builtin; refine wpList_append_g rfl (.tmp 16) (.tmp 19) rfl rfl eltX (hgr.out _ hb2.out) rfl rfl hsrc.out hbd ?_; intro v2 w2 g1 g2; have hkk := hfin.out _ v2 w2 hb2.out hnew.out g1 g2; obtain ⟨⟨s3, c3, rfl⟩, f4, f5, hgo⟩ := hkk; clear hfin g1 g2 hgr hsrc hb2 hnew)
      go_roundw
      case rel => exact ⟨k + 1, by go_num, by omega, hgo⟩
      case measure => simp [RowKit.intOf]; omega
    · obtain rfl : k = n := by omega
      have i2 : ¬ ((k : Int) < (k : Int)) := by omega
      go_wp2_with fail
      go_ret
      exact ⟨_, rfl, hs.out⟩
end Dx
end Go.Proofs.Ytpclacaiabbmjaa
