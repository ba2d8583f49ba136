/- More of package sched: New, Global, and the places where Pick seeks. -/
import Derived.Test.YtpclacaiabbmjaaSchedDo
import Derived.Deep.RegionLaw
import Derived.StillTailTactics
import Derived.Deep.RegionHeld3
import Derived.Deep.RegionWith
namespace Go.Proofs.Ytpclacaiabbmjaa
open Go.RowKit Go.Lib Fx Ho Gr
set_option linter.unusedVariables false
namespace Sd
variable {w w' W W0 : World} {p q : Nat} {rv qv : Value} {A : List Nat} {R : List Rg} {C : List Int} {H H' : Home}
/-- A call of a Go function by its contract, as one step of a region that draws. -/
theorem step_call {P : Program} {ops : Array Oper} {o : Oper} {a : Act} {w : World} {K : Act → World → Prop} {Q : Exit → Act → World → Prop} {E : Prop} (hgd : o.guard = none) (f : Nat) (xs : Array Operand) {ts : Array TypeId} (ho : o.op = .call { callee := .value (.func f), args := xs, argTypes := ts }) (args : Array Value) (ha : xs.map a.eval = args) (hcf : (callFunc f args).run P w = .ok (.enter f args) w) {post : Ending → World → Prop}
    (hc : Calls P f args w post) (hK : ∀ e w', post e w' → ∃ v, e = .returned v ∧ K (a.put o.dst v) w') : if Region.wanted o (yielded ops a.tmps) = true then Oper.wp P o a w K Q else E := by
  subst ha
  have hw : Region.wanted o (yielded ops a.tmps) = true := by simp [Region.wanted, hgd]
  rw [if_pos hw]
  unfold Oper.wp
  have hrun : (execOp a.eval o).run P w = .ok (.enter f (xs.map a.eval)) w := by
    simp [execOp, ho, resolve, invoke, Act.eval, Deferred.ofValue, hcf]
  rw [hrun, Oper.upon_enter]
  refine hc.mono fun e w'' hh => ?_
  obtain ⟨v, rfl, h⟩ := hK _ _ hh
  exact h
theorem eltR : Elt Try.prog 76 79 1 8 (.pointer none) :=
  ⟨Try.underlying76, by kernel_rfl, rfl, by decide, by decide⟩
/-- A ring more. -/
theorem IsS.more (h : IsS w p q rv qv A R C) {w1 w2 : World} {a : Nat} {rv2 : Value} (hb : Below w.heap.size w w1) (ha : w.heap.size ≤ a) (hr : Ri.IsRing w1 a none []) (hg : GRow 1 w2 rv2 (R.length + 1) (ptrs A ++ [.pointer (some ⟨a, 0, none⟩)])) (hw : Wrote (fun k => rv.ownBlock = some k) w1 (fun k => rv2.ownBlock = some k) w2) :
    IsS (w2.setCell ⟨p, 0, none⟩ rv2) p q rv2 qv (A ++ [a]) (R ++ [rg0]) C ∧ Wrote (home p q rv qv A) w (home p q rv2 qv (A ++ [a])) (w2.setCell ⟨p, 0, none⟩ rv2) := by
  have h1 := h.below hb
  have hp := block_lt h1.head
  have hp0 := block_lt h.head
  have hal := hr.lt
  have hd : w2.heap[p]? = w1.heap[p]? := hw.block p hp h.o1
  have hra : rv.ownBlock ≠ some a := fun e => by have := h.row.lt e; omega
  have hq1 : rv2.ownBlock ≠ some p := fun e => (hw.home p e).elim h.o1 (fun h2 => by omega)
  have hw2 : Wrote (fun k => k = p) w2 (fun k => k = p) (w2.setCell ⟨p, 0, none⟩ rv2) := wrote_setCell (H := fun k => k = p) (a := ⟨p, 0, none⟩) (u := rv2) rfl rfl rfl rfl rfl
  have hap : a ≠ p := by omega
  have hA : ∀ i, i < R.length → (A ++ [a]).getD i 0 = A.getD i 0 := fun i hi => by
    rw [List.getD_eq_getElem?_getD, List.getElem?_append_left (by rw [h.len]; exact hi), ← List.getD_eq_getElem?_getD]
  have hAn : (A ++ [a]).getD R.length 0 = a := by
    rw [List.getD_eq_getElem?_getD, List.getElem?_append_right (by rw [h.len]; exact Nat.le_refl _), h.len, Nat.sub_self]; rfl
  have hR : ∀ i, i < R.length → (R ++ [rg0]).getD i rg0 = R.getD i rg0 := fun i hi => by
    rw [List.getD_eq_getElem?_getD, List.getElem?_append_left hi, ← List.getD_eq_getElem?_getD]
  have hRn : (R ++ [rg0]).getD R.length rg0 = rg0 := by
    rw [List.getD_eq_getElem?_getD, List.getElem?_append_right (Nat.le_refl _), Nat.sub_self]; rfl
  have hAa : ∀ i, i < R.length → A.getD i 0 ≠ a := fun i hi e => by have := (h.rg i hi).lt; omega
  have hA2 : ∀ i, i < R.length → rv2.ownBlock ≠ some (A.getD i 0) := fun i hi e => (hw.home _ e).elim (h.o2 i hi).2 (fun h2 => by have := (h1.rg i hi).lt; omega)
  have hAn2 : rv2.ownBlock ≠ some a := fun e => (hw.home _ e).elim hra (fun h2 => by omega)
  have hl : (R ++ [rg0]).length = R.length + 1 := by simp
  refine ⟨⟨?_, ?_, by simp [h.len], fun i hi => ?_, (h1.com.wrote hw (fun k hk e => (h.o3 k hk).2.1 e)).wrote hw2 (fun k hk e => (h.o3 k hk).1 e), fun i j hi hj e => ?_, hq1, fun i hi => ?_, fun k hk => ⟨(h.o3 k hk).1, fun e => ?_, fun i hi => ?_⟩⟩, ⟨hw2.os.trans (hw.os.trans hb.os), hw2.tape.trans (hw.tape.trans hb.tape), hw2.output.trans (hw.output.trans hb.output), Nat.le_trans hb.size (Nat.le_trans hw.size hw2.size), fun k hk hn => ?_, fun k hk => ?_⟩⟩
  · rw [heap_setCell_same _ p 0 _ _ _ (hd.trans h1.head)]; rfl
  · rw [hl]
    have : ptrs (A ++ [a]) = ptrs A ++ [.pointer (some ⟨a, 0, none⟩)] := by unfold ptrs; rw [List.map_append]; rfl
    rw [this]
    exact hg.wrote hw2 (fun k hk e => hq1 (by rw [← show k = p from e]; exact hk))
  · rw [hl] at hi
    by_cases e : i < R.length
    · rw [hA i e, hR i e]
      exact ((h1.rg i e).wrote hw (fun e' => (h.o2 i e).2 e')).wrote hw2 (fun e' => (h.o2 i e).1 e')
    · obtain rfl : i = R.length := by omega
      rw [hAn, hRn]
      exact (hr.wrote hw hra).wrote hw2 hap
  · rw [hl] at hi hj
    by_cases ei : i < R.length
    · by_cases ej : j < R.length
      · rw [hA i ei, hA j ej] at e; exact h.one i j ei ej e
      · obtain rfl : j = R.length := by omega
        rw [hA i ei, hAn] at e; exact absurd e (hAa i ei)
    · obtain rfl : i = R.length := by omega
      by_cases ej : j < R.length
      · rw [hA j ej, hAn] at e; exact absurd e.symm (hAa j ej)
      · omega
  · rw [hl] at hi
    by_cases e : i < R.length
    · rw [hA i e]; exact ⟨(h.o2 i e).1, hA2 i e⟩
    · obtain rfl : i = R.length := by omega
      rw [hAn]; exact ⟨hap, hAn2⟩
  · exact (hw.home k e).elim (h.o3 k hk).2.1 (fun h2 => by have := h1.com.home_lt hk; omega)
  · rw [hl] at hi
    by_cases e : i < R.length
    · rw [hA i e]; exact (h.o3 k hk).2.2 i e
    · obtain rfl : i = R.length := by omega
      rw [hAn]; exact fun e2 => by have := h.com.home_lt hk; omega
  · have hk1 : k < w1.heap.size := Nat.lt_of_lt_of_le hk hb.size
    rw [hw2.block k (Nat.lt_of_lt_of_le hk1 hw.size) (fun e => hn (Or.inl e)), hw.block k hk1 (fun e => hn (Or.inr (Or.inl e)))]
    exact hb.block k hk
  · rcases hk with hk | hk | ⟨i, hi, rfl⟩ | hk
    · exact Or.inl (Or.inl hk)
    · exact (hw.home k hk).imp (fun h2 => Or.inr (Or.inl h2)) (fun h2 => Nat.le_trans hb.size h2)
    · by_cases e : i < R.length
      · rw [hA i e]; exact Or.inl (Or.inr (Or.inr (Or.inl ⟨i, by rw [h.len]; exact e, rfl⟩)))
      · obtain rfl : i = R.length := by simp [h.len] at hi; omega
        rw [hAn]; exact Or.inr ha
    · exact Or.inl (Or.inr (Or.inr (Or.inr hk)))
theorem below_lowS {k : Nat} (hb : Below w.heap.size w w') (h : w'.heap.size ≤ k) : w.heap.size ≤ k := Nat.le_trans hb.size h
/-- New has made this. -/
def NewS (n : Nat) (w : World) (e : Ending) (w' : World) : Prop := ∃ p H, e = .returned (.tuple #[.pointer (some ⟨p, 0, none⟩), .int .i64 0]) ∧ Ss w w' p H (List.replicate n rg0) []
set_option maxRecDepth 100000 in
set_option maxHeartbeats 1000000 in
/-- New, of so many Ps. -/
theorem new_any (n : Nat) (h1 : 1 ≤ n) (h2 : n ≤ 64) (w : World) : Calls Try.prog 11 #[.int .i64 n] w (NewS n w) := by
  have cq := Qu.new_any w
  have i1 : ¬ ((n : Int) < 1) := by omega
  have i2 : ¬ ((64 : Int) < (n : Int)) := by omega
  have j1 : (1 : Int) ≤ (n : Int) := by omega
  have j2 : (n : Int) ≤ 64 := by omega
  go_enter Try.func11, Try.ntmps11
  go_wp2_with fail
  with_reducible refine Calls.mono (cq) ?_
  rintro e w2 ⟨rfl, hb, hq⟩
  have hs : Hid (Ss w (w2.alloc (.cells #[.slice none 0 0, .pointer (some ⟨w.heap.size, 0, none⟩)] 78)) w2.heap.size (home w2.heap.size w.heap.size (.slice none 0 0) (.slice none 0 0) []) (List.replicate 0 rg0) []) := Lib.hid (by
    have hba := below_alloc (Below.refl _ w2) (.cells #[.slice none 0 0, .pointer (some ⟨w.heap.size, 0, none⟩)] 78)
    have hlt := hq.lt
    refine ⟨_, _, _, _, ⟨heap_alloc_new _ _, grow_nil 1 _, rfl, fun i hi => by simp at hi, hq.below hba, fun i j hi => by simp at hi, by simp [Value.ownBlock], fun i hi => by simp at hi, fun k hk => ⟨?_, by simp [Value.ownBlock], fun i hi => by simp at hi⟩⟩, fun k hk => ?_, hb.trans (hba.mono hb.size), rfl⟩
    · have := hq.home_lt hk; omega
    · rcases hk with hk | hk | ⟨i, hi, _⟩ | hk | hk
      · have := hb.size; omega
      · simp [Value.ownBlock] at hk
      · simp at hi
      · have := show k = w.heap.size from hk; omega
      · simp [Value.ownBlock] at hk)
  clear cq hb hq
  go_wp2_with fail
  generalize w2.alloc (.cells #[.slice none 0 0, .pointer (some ⟨w.heap.size, 0, none⟩)] 78) = w3 at *
  generalize w2.heap.size = p at *
  clear i1 i2
  go_loopw [15] (fun x wr => ∃ (k : Nat) (H : Home), x = .int .i64 k ∧ k ≤ n ∧ Hid (Ss w wr p H (List.replicate k rg0) [])) (fun x _ => (n - (RowKit.intOf x).toNat))
  case atStart => exact ⟨0, _, rfl, by omega, hs⟩
  case round =>
    clear hs
    obtain ⟨k, H, rfl, k1, hs⟩ := hrel
    by_cases hk : k < n
    · have i2 : (k : Int) < (n : Int) := by omega
      obtain ⟨q, rv, qv, A, hS, hlo, hbw, rfl⟩ := hs.out
      have c0 := hS.cs.1
      have f0 : wr.frozen? ⟨p, 0, none⟩ = false := frozen_of_row wr p 0 _ _ hS.head
      obtain ⟨sp, cap, rfl⟩ := hS.row.slice
      have hlen : (List.replicate k rg0).length = k := List.length_replicate
      have cn : Hid (∀ (V : World), V.heap = wr.heap → V.os = wr.os → V.tape = wr.tape → V.output = wr.output → Calls Try.prog 58 #[] V fun e w5 => ∃ a, e = .returned (.pointer (some ⟨a, 0, none⟩)) ∧ w5.cell? ⟨p, 0, none⟩ = some (.slice sp k cap) ∧ p < w5.heap.size ∧
          Hid (GRow 1 (w5.alloc (.cells #[.pointer (some ⟨a, 0, none⟩)] 79)) (.slice sp k cap) k (ptrs A)) ∧ Hid (Src Try.prog 1 76 (.slice (some ⟨w5.heap.size, 0, none⟩) 1 1) 1 [.pointer (some ⟨a, 0, none⟩)] (w5.alloc (.cells #[.pointer (some ⟨a, 0, none⟩)] 79))) ∧
          Hid (∀ v3 w3, GRow 1 w3 v3 (k + 1) (ptrs A ++ [.pointer (some ⟨a, 0, none⟩)]) → Wrote (fun k' => (Value.slice sp k cap).ownBlock = some k') (w5.alloc (.cells #[.pointer (some ⟨a, 0, none⟩)] 79)) (fun k' => v3.ownBlock = some k') w3 → (∃ s c, v3 = .slice s (k + 1) c) ∧ w3.cell? ⟨p, 0, none⟩ = some (.slice sp k cap) ∧ w3.frozen? ⟨p, 0, none⟩ = false ∧ Hid (∃ H, Ss w (w3.setCell ⟨p, 0, none⟩ v3) p H (List.replicate (k + 1) rg0) []))) := Lib.hid fun V e1 e2 e3 e4 => by
        have hb := below_same e1 e2 e3 e4
        refine (Ri.new_any V).mono fun e w5 ⟨g1, g2, g3⟩ => ?_
        have hb5 : Below wr.heap.size wr w5 := hb.trans (by rw [e1] at g2; exact g2)
        have hb6 := below_alloc hb5 (.cells #[.pointer (some ⟨V.heap.size, 0, none⟩)] 79)
        have hS6 := hS.below hb6
        refine ⟨_, g1, ?_, Nat.lt_of_lt_of_le (block_lt hS.head) hb5.size, ?_, ?_, Lib.hid fun v3 w3 k1 k2 => ?_⟩
        · rw [← hlen]; exact cell_then hb5 c0
        · have := hS6.row; rw [hlen] at this; exact Lib.hid this
        · exact Lib.hid (src_new (s := 1) (A := #[.pointer (some ⟨V.heap.size, 0, none⟩)]) Try.underlying76 rfl (by simp [Value.oneCell']) (heap_alloc_new _ _))
        · have hd := (k2.block p (block_lt hS6.head) (by have := hS6.o1; rw [hlen] at this; exact this)).trans hS6.head
          rw [hlen] at hd
          have hm := hS.more (a := V.heap.size) (rv2 := v3) (w2 := w3) hb6 (by rw [e1]; exact Nat.le_refl _) (g3.wrote (H := fun _ => False) (Wrote.of_below (below_alloc (Below.refl _ _) _)) (fun h => h)) (by rw [hlen]; exact k1) (by rw [hlen]; exact k2)
          have hrep : List.replicate k rg0 ++ [rg0] = List.replicate (k + 1) rg0 := List.replicate_succ'.symm
          rw [hrep] at hm
          exact ⟨k1.slice, cell_of hd rfl, frozen_of_row w3 p 0 _ _ hd, Lib.hid ⟨_, _, _, _, _, hm.1, hm.2.low hlo hbw.size, hbw.trans (Rw.below_of_wrote hm.2 hlo hbw.size), rfl⟩⟩
      rw [hlen] at c0
      have hbd : k + 1 ≤ 1000000 := by omega
      clear hlen hs hS hlo hbw
      go_wp2_with fail
      go_region_law (first | (refine step_call rfl 58 #[] rfl #[] (by simp) ?_ (cn.out _ ?_ ?_ ?_ ?_) ?_; rfl; rfl; rfl; rfl; rfl; rintro e w5 ⟨a, rfl, c5, p5, hG, hsrc, key⟩; refine ⟨_, rfl, ?_⟩) | (refine step_append_g rfl (.tmp 21) (.tmp 23) rfl rfl eltR hG.out rfl rfl hsrc.out hbd ?_; intro v3 w3 g1 g2; have hk := key.out v3 w3 g1 g2; obtain ⟨⟨s3, c3, rfl⟩, f4, f5, hfin⟩ := hk; clear key g1 g2 hG hsrc))
      all_goals
        obtain ⟨H9, hfin⟩ := hfin.out
        go_wp2_with fail
        go_roundw
        case rel => exact ⟨k + 1, H9, by go_num, by omega, Lib.hid hfin⟩
        case measure => simp [RowKit.intOf]; omega
    · obtain rfl : k = n := by omega
      have i2 : ¬ ((k : Int) < (k : Int)) := by omega
      go_wp2_with fail
      go_ret2
      exact ⟨p, H, rfl, hs.out⟩
end Sd
end Go.Proofs.Ytpclacaiabbmjaa
