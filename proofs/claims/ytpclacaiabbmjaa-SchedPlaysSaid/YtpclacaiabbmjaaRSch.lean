/- The document's own Sched: rings behind a row of pointers, and a queue that is a plain list; what it is made of, what Global, Len and Ready make. -/
import Derived.Test.YtpclacaiabbmjaaSched
import Derived.Test.YtpclacaiabbmjaaRefRing2
import Derived.Test.YtpclacaiabbmjaaPutNew
import Derived.RegionTactic
import Derived.StillTailTactics
import Derived.BigQuiet
namespace Go.Proofs.Ytpclacaiabbmjaa
open Go.RowKit Go.Lib Fx Ho Gr Rw
set_option linter.unusedVariables false
namespace Dx
open Sd (Rg rg0 rAll ptrs ptrs_len ptrs_at rPut)
structure IsX (S : Home) (w : World) (x : Nat) (rv lv : Value) (A : List Nat) (R : List Rg) (C : List Int) : Prop where
  head : w.heap[x]? = some (.cells #[rv, lv] 48 (0, 0))
  row : GRow 1 w rv R.length (ptrs A)
  len : A.length = R.length
  rg : ∀ i, i < R.length → ∃ nv kv, Rr.IsR S w (A.getD i 0) nv kv (R.getD i rg0).1 (R.getD i rg0).2
  com : Ints w S lv C
  cap : ∀ s n c, lv = .slice s n c → n ≤ c
  one : ∀ i j, i < R.length → j < R.length → A.getD i 0 = A.getD j 0 → i = j
  sx : ¬ S x
  sa : ∀ i, i < R.length → ¬ S (A.getD i 0)
  o1 : rv.ownBlock ≠ some x
  o2 : ∀ i, i < R.length → A.getD i 0 ≠ x ∧ rv.ownBlock ≠ some (A.getD i 0)
  sr : ∀ k, rv.ownBlock = some k → ¬ S k
  sm : ∀ i, i < R.length → (R.getD i rg0).2.length ≤ 256
def home (x : Nat) (rv : Value) (A : List Nat) : Home := fun k => k = x ∨ rv.ownBlock = some k ∨ ∃ i, i < A.length ∧ A.getD i 0 = k
def nS (S : Home) (w : World) : Home := fun k => S k ∨ w.heap.size ≤ k
variable {S S' : Home} {w w' w1 W : World} {x i n : Nat} {rv rv' lv lv' v : Value} {A A' : List Nat} {R R' : List Rg} {C C' : List Int} {H H' : Home} {g : Int} {zs : List Int}
theorem isr_wider {p : Nat} {nv kv : Value} {nx : Option Int} {L : List Int} (h : Rr.IsR S w p nv kv nx L) (hs : ∀ k, S k → k < w.heap.size → S' k) : Rr.IsR S' w p nv kv nx L := ⟨h.head, h.nr.wider hs, h.lr.wider hs, h.cap⟩
namespace IsX
theorem xlt (h : IsX S w x rv lv A R C) : x < w.heap.size := block_lt h.head
theorem lt (h : IsX S w x rv lv A R C) {k : Nat} (hk : home x rv A k) : k < w.heap.size := by
  rcases hk with rfl | hk | ⟨i, hi, rfl⟩
  · exact block_lt h.head
  · exact h.row.lt hk
  · obtain ⟨_, _, hr⟩ := h.rg i (by rw [← h.len]; exact hi); exact hr.lt
theorem wrote (h : IsX S w x rv lv A R C) (ht : Wrote H w H' w') (ho : Off (home x rv A) H) (hs : Off S H) : IsX S w' x rv lv A R C :=
  ⟨by rw [ht.block x (block_lt h.head) (fun h' => ho x (Or.inl rfl) h')]; exact h.head, h.row.wrote ht (fun k hk h' => ho k (Or.inr (Or.inl hk)) h'), h.len, fun i hi => by
    obtain ⟨nv, kv, hr⟩ := h.rg i hi
    exact ⟨nv, kv, hr.wrote ht (fun h' => ho _ (Or.inr (Or.inr ⟨i, by rw [h.len]; exact hi, rfl⟩)) h') hs⟩, h.com.wrote ht hs, h.cap, h.one, h.sx, h.sa, h.o1, h.o2, h.sr, h.sm⟩
theorem below (h : IsX S w x rv lv A R C) (hb : Below w.heap.size w w') : IsX S w' x rv lv A R C := h.wrote (H := fun _ => False) (Wrote.of_below hb) (fun _ _ h => h) (fun _ _ h => h)
theorem off_home (h : IsX S w x rv lv A R C) {k : Nat} (hk : home x rv A k) : ¬ S k := by
  rcases hk with rfl | hk | ⟨i, hi, rfl⟩
  · exact h.sx
  · exact h.sr k hk
  · exact h.sa i (by rw [← h.len]; exact hi)
theorem toS (h : IsX S w x rv lv A R C) (hs : ∀ k, S k → k < w.heap.size → S' k) (ho : ∀ k, home x rv A k → ¬ S' k) : IsX S' w x rv lv A R C :=
  ⟨h.head, h.row, h.len, fun i hi => by obtain ⟨nv, kv, hr⟩ := h.rg i hi; exact ⟨nv, kv, isr_wider hr hs⟩, h.com.wider hs, h.cap, h.one, ho x (.inl rfl), fun i hi => ho _ (.inr (.inr ⟨i, by rw [h.len]; exact hi, rfl⟩)), h.o1, h.o2, fun k hk => ho k (.inr (.inl hk)), h.sm⟩
theorem up (h : IsX S w x rv lv A R C) : IsX (nS S w) w x rv lv A R C := h.toS (fun k hk _ => .inl hk) (fun k hk h2 => h2.elim (h.off_home hk) (fun h3 => by have := h.lt hk; omega))
/-- A ring turns. -/
theorem ring (h : IsX S w x rv lv A R C) (hi : i < R.length) (r : Rg) (hl : r.2.length ≤ 256) (ht : Wrote (fun k => k = A.getD i 0) w (fun k => k = A.getD i 0) w') {nv kv : Value} (hr : Rr.IsR S w' (A.getD i 0) nv kv r.1 r.2) : IsX S w' x rv lv A (R.set i r) C ∧ Wrote (home x rv A) w (home x rv A) w' := by
  have o2 := h.o2 i hi
  have hoS : Off S (fun k => k = A.getD i 0) := fun k h1 h2 => h.sa i hi (by rw [← show k = _ from h2]; exact h1)
  refine ⟨⟨by rw [ht.block x (block_lt h.head) (fun h' => o2.1 h'.symm)]; exact h.head, ?_, by rw [List.length_set]; exact h.len, fun j hj => ?_, h.com.wrote ht hoS, h.cap, ?_, h.sx, ?_, h.o1, ?_, h.sr, fun j hj => ?_⟩, ⟨ht.os, ht.tape, ht.output, ht.size, fun k hk hn => ht.block k hk (fun e => hn (Or.inr (Or.inr ⟨i, by rw [h.len]; exact hi, e.symm⟩))), fun k hk => Or.inl hk⟩⟩
  · rw [List.length_set]
    exact h.row.wrote ht (fun k hk h' => o2.2 (by rw [← show k = _ from h']; exact hk))
  · rw [List.length_set] at hj
    by_cases e : i = j
    · subst e
      rw [List.getD_eq_getElem?_getD (l := R.set i r), List.getElem?_set_self hi]; exact ⟨nv, kv, hr⟩
    · rw [List.getD_eq_getElem?_getD (l := R.set i r), List.getElem?_set_ne e, ← List.getD_eq_getElem?_getD]
      obtain ⟨n1, k1, h1⟩ := h.rg j hj
      exact ⟨n1, k1, h1.wrote ht (fun h' => e (h.one i j hi hj h'.symm)) hoS⟩
  · simp only [List.length_set]; exact h.one
  · simp only [List.length_set]; exact h.sa
  · simp only [List.length_set]; exact h.o2
  · rw [List.length_set] at hj
    by_cases e : i = j
    · subst e
      rw [List.getD_eq_getElem?_getD (l := R.set i r), List.getElem?_set_self hi]; exact hl
    · rw [List.getD_eq_getElem?_getD (l := R.set i r), List.getElem?_set_ne e, ← List.getD_eq_getElem?_getD]; exact h.sm j hj
/-- The common queue is another one. -/
theorem queue (h : IsX S w x rv lv A R C) (hb : Below w.heap.size w w1) (hs : ∀ k, S k → S' k) (ho : ∀ k, home x rv A k → ¬ S' k) (hv : Ints w1 S' lv' C') (hc : ∀ s n c, lv' = .slice s n c → n ≤ c) : IsX S' (w1.setCell ⟨x, 1, none⟩ lv') x rv lv' A R C' ∧ Wrote (home x rv A) w (home x rv A) (w1.setCell ⟨x, 1, none⟩ lv') := by
  have h1 := (h.below hb).toS (fun k hk _ => hs k hk) ho
  have hw : Wrote (fun k => k = x) w1 (fun k => k = x) (w1.setCell ⟨x, 1, none⟩ lv') := wrote_setCell (a := ⟨x, 1, none⟩) (u := lv') rfl rfl rfl rfl rfl
  have hoS : Off S' (fun k => k = x) := fun k a b => ho x (.inl rfl) (by rw [← show k = x from b]; exact a)
  refine ⟨⟨?_, h1.row.wrote hw (fun k hk e => h1.o1 (by rw [hk, show k = x from e])), h1.len, fun j hj => ?_, hv.wrote hw hoS, hc, h1.one, h1.sx, h1.sa, h1.o1, h1.o2, h1.sr, h1.sm⟩, ?_⟩
  · rw [heap_setCell_same _ x 1 _ _ _ h1.head]; rfl
  · obtain ⟨nv, kv, hr⟩ := h1.rg j hj
    exact ⟨nv, kv, hr.wrote hw (fun e => (h1.o2 j hj).1 e) hoS⟩
  · have h2 := (Wrote.of_below (H := fun k => k = x) hb).trans hw
    exact ⟨h2.os, h2.tape, h2.output, h2.size, fun k hk hn => h2.block k hk (fun e => hn (.inl e)), fun k hk => .inl hk⟩
theorem cs (h : IsX S w x rv lv A R C) : w.cell? ⟨x, 0, none⟩ = some rv ∧ w.cell? ⟨x, 1, none⟩ = some lv ∧ w.frozen? ⟨x, 1, none⟩ = false := ⟨cell_of h.head rfl, cell_of h.head rfl, frozen_of_row w x 1 _ _ h.head⟩
theorem place (h : IsX S w x rv lv A R C) (hi : i < R.length) : ∃ b off cap, rv = .slice (some ⟨b, off, none⟩) R.length cap ∧ R.length ≤ cap ∧ cap ≤ maxLen ∧ w.cell? ⟨b, off + i, none⟩ = some (.pointer (some ⟨A.getD i 0, 0, none⟩)) ∧ w.frozen? ⟨b, off + i, none⟩ = false := by
  obtain ⟨ao, b, off, cap, rfl, h1, h2, h3, h4⟩ := h.row.cell
  obtain ⟨rfl, _, _⟩ := h3 (by omega)
  have hp := ptrs_at (A := A) (i := i) (by rw [h.len]; exact hi)
  exact ⟨b, off, cap, rfl, h1, h2, (h4 _ _ hp).1, (h4 _ _ hp).2⟩
end IsX
/-- The call answers v; rings and queue are R' and C' then. -/
def XS (S : Home) (v : Value) (w : World) (x : Nat) (rv : Value) (A : List Nat) (R' : List Rg) (C' : List Int) (e : Ending) (w' : World) : Prop :=
  e = .returned v ∧ ∃ (S' : Home) (rv' lv' : Value) (A' : List Nat), (∀ k, S' k → nS S w k) ∧ Wrote (home x rv A) w (home x rv' A') w' ∧ IsX S' w' x rv' lv' A' R' C'
/-- The common queue is another one, all else as it was. -/
def GS (S : Home) (w : World) (x : Nat) (rv : Value) (A : List Nat) (R : List Rg) (C' : List Int) (e : Ending) (w' : World) : Prop :=
  e = .returned (.tuple #[]) ∧ ∃ v1, Wrote (home x rv A) w (home x rv A) w' ∧ IsX (nS S w) w' x rv v1 A R C'
theorem gs_xs {e : Ending} (h : GS S w x rv A R C e w') : XS S (.tuple #[]) w x rv A R C e w' := by
  obtain ⟨he, v1, h1, h2⟩ := h
  exact ⟨he, nS S w, rv, v1, A, fun k hk => hk, h1, h2⟩
theorem xs_still (h : IsX S w x rv lv A R C) : XS S v w x rv A R C (.returned v) w := ⟨rfl, S, rv, lv, A, fun k hk => .inl hk, Wrote.refl _ _, h⟩
theorem ns_then {S1 S2 : Home} (h1 : ∀ k, S1 k → nS S w k) (hs : w.heap.size ≤ w1.heap.size) (h2 : ∀ k, S2 k → nS S1 w1 k) : ∀ k, S2 k → nS S w k := fun k hk => (h2 k hk).elim (h1 k) (fun h => .inr (Nat.le_trans hs h))
theorem off_cap {v : Value} {zs : List Int} (h : Qu.OffRow w v zs) : ∀ s n c, v = .slice s n c → n ≤ c := by
  obtain ⟨ao, b, off, cap, rfl, hle, _⟩ := h.cell
  intro s n c e
  cases e; exact hle
set_option maxRecDepth 100000 in
set_option maxHeartbeats 2000000 in
theorem global_at (h : IsX S w x rv lv A R C) {u : Value} (hu : Ints w S' u zs) (hl : C.length + zs.length ≤ 900000) : Calls Try.prog 17 #[.pointer (some ⟨x, 0, none⟩), u] w (GS S w x rv A R (C ++ zs)) := by
  obtain ⟨_, c1, _⟩ := h.cs
  have hplt := h.xlt
  obtain ⟨s0, c0, e0, _⟩ := id h.com
  obtain ⟨s8, c8, e8, _⟩ := id hu
  subst e8
  have hsrc : Hid (∀ W, Below w.heap.size w W → Src Try.prog 1 41 lv C.length (cells C) W) := Lib.hid fun W hb => Qu.src_of_ints (h.com.below hb)
  have hsrc2 : Hid (∀ W, Below w.heap.size w W → Src Try.prog 1 41 (.slice s8 zs.length c8) zs.length (cells zs) W) := Lib.hid fun W hb => Qu.src_of_ints (hu.below hb)
  have hfin : Hid (∀ (W : World) (v1 : Value), Below w.heap.size w W → Low w.heap.size (fun k => v1.ownBlock = some k) → Qu.OffRow W v1 (C ++ zs) → (∃ s n c, v1 = .slice s n c) ∧ W.cell? ⟨x, 1, none⟩ = some lv ∧ W.frozen? ⟨x, 1, none⟩ = false ∧ Hid (GS S w x rv A R (C ++ zs) (.returned (.tuple #[])) (W.setCell ⟨x, 1, none⟩ v1))) := Lib.hid fun W v1 hb hlow hr => by
    obtain ⟨s, c, e⟩ := hr.slice
    obtain ⟨_, k1, k2⟩ := (h.below hb).cs
    have hu := h.up
    obtain ⟨g1, g2⟩ := h.queue (S' := nS S w) hb (fun k hk => .inl hk) (fun k hk => hu.off_home hk) (hr.ints.wider (fun k hk _ => .inr (hlow k hk))) (off_cap hr)
    exact ⟨⟨s, _, c, e⟩, k1, k2, Lib.hid ⟨rfl, v1, g2, g1⟩⟩
  have hbA : ([] : List Int).length + C.length ≤ 1000000 := by simp; omega
  have hbB : ([] ++ C : List Int).length + zs.length ≤ 1000000 := by simp; omega
  rw [e0] at c1 hsrc hfin
  have e1 : Hid ((w.alloc (.cells #[] 3)).heap[w.heap.size]? = some (.cells #[] 3 (0, 0))) := Lib.hid (heap_alloc_new _ _)
  have e2 : w.heap.size ≤ (w.alloc (.cells #[] 3)).heap.size := Nat.le_of_lt (lt_new _ _)
  have hb1 : Hid (Below w.heap.size w (w.alloc (.cells #[] 3))) := Lib.hid (below_alloc (Below.refl _ _) _)
  clear h hu e0 hl
  go_enter Try.func17, Try.ntmps17
  go_wp2_with (first
    | (at_builtin; refine wpList_append_low rfl (.tmp 11) (.tmp 12) rfl rfl w.heap.size hr7.out hl7.out (Below.size hb7.out) rfl rfl (hsrc2.out _ hb7.out) hbB ?_; intro v9 w9 hr9 hl9 hb9; have hk9 := hfin.out w9 v9 (hb7.out.trans hb9) hl9 hr9; obtain ⟨⟨s9, n9, c9, rfl⟩, f1, f2, hgo⟩ := hk9; clear hr9 hl9 hb9 hfin)
    | (at_builtin; refine wpList_append_low rfl (.tmp 5) (.tmp 10) rfl rfl w.heap.size (off_empty (by exact e1.out)) (low_some (Nat.le_refl _)) (by exact e2) rfl rfl (hsrc.out _ hb1.out) hbA ?_; intro v7 w7 hr7 hl7 hb7; obtain ⟨s7, c7, rfl⟩ := hr7.slice; replace hr7 := Lib.hid hr7; replace hl7 := Lib.hid hl7; replace hb7 := Lib.hid (hb1.out.trans hb7); clear e2))
  go_end0
  exact hgo.out
theorem global_any (h : IsX S w x rv lv A R C) {u : Value} (hu : Ints w S' u zs) (hl : C.length + zs.length ≤ 900000) : Calls Try.prog 17 #[.pointer (some ⟨x, 0, none⟩), u] w (XS S (.tuple #[]) w x rv A R (C ++ zs)) :=
  (global_at h hu hl).mono fun _ _ hh => gs_xs hh
end Dx
end Go.Proofs.Ytpclacaiabbmjaa
