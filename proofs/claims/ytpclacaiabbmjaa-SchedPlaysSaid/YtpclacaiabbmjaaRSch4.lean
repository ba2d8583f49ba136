/- The document's own Sched: the common queue's Get; a ring that is a new one; what Drop makes; a ring steals of another. -/
import Derived.Test.YtpclacaiabbmjaaRSch3
import Derived.Test.YtpclacaiabbmjaaQueueGet
import Derived.Test.YtpclacaiabbmjaaRefRing3
namespace Go.Proofs.Ytpclacaiabbmjaa
open Go.RowKit Go.Lib Fx Ho Gr Rw
set_option linter.unusedVariables false
namespace Dx
open Sd (Rg rg0 rAll ptrs ptrs_len ptrs_at rPut rRow rGet rSteal findR whereV find_some find_none qN)
variable {S S' : Home} {w w' w1 W : World} {x i j n q : Nat} {rv rv' lv lv' v : Value} {A A' : List Nat} {R R' : List Rg} {C C' : List Int} {H H' : Home} {g : Int} {zs : List Int}
theorem gset_self {α : Type} {L : List α} {d y : α} {i : Nat} (hi : i < L.length) : (L.set i y).getD i d = y := by
  rw [List.getD_eq_getElem?_getD, List.getElem?_set_self hi]; rfl
theorem gset_ne {α : Type} {L : List α} {d y : α} {i j : Nat} (e : i ≠ j) : (L.set i y).getD j d = L.getD j d := by
  rw [List.getD_eq_getElem?_getD, List.getElem?_set_ne e, ← List.getD_eq_getElem?_getD]
/-- What the common queue's Get answers and leaves. -/
def QG (S : Home) (w : World) (x : Nat) (rv : Value) (A : List Nat) (R : List Rg) (C : List Int) (n : Nat) (e : Ending) (w1 : World) : Prop := ∃ s c lv', e = .returned (.slice s n c) ∧ Hid (Wrote (home x rv A) w (home x rv A) w1 ∧ IsX S w1 x rv lv' A R (C.drop n) ∧ Ints w1 S (.slice s n c) (C.take n))
set_option maxRecDepth 100000 in
set_option maxHeartbeats 1000000 in
/-- Up to 64 of the common queue. -/
theorem queue_get (h : IsX S w x rv lv A R C) (hq : 1 ≤ q) (hq2 : q ≤ 64) (hs : C.length ≤ 900000) (hn : n = qN C q 64) : Calls Try.prog 68 #[.pointer (some ⟨x, 1, none⟩), .int .i64 q, .int .i64 64] w (QG S w x rv A R C n) := by
  obtain ⟨_, c1, f1⟩ := h.cs
  unfold qN at hn
  have hle : n ≤ C.length := by omega
  have hmin := fun (ts : Array TypeId) (t : TypeId) (W : World) => Qu.min_four Try.prog ts t (C.length / q + 1) 64 128 C.length n hn W
  have hmax1 : ∀ (ts : Array TypeId) (t : TypeId) (W : World), (Builtin.max_ ts t #[.int .i64 (q : Int), .int .i64 1]).run Try.prog W = .ok (.int .i64 (q : Int)) W := fun ts t W => by
    rw [run_max_int2, if_neg (by omega)]
  have hmax2 : ∀ (ts : Array TypeId) (t : TypeId) (W : World), (Builtin.max_ ts t #[.int .i64 64, .int .i64 0]).run Try.prog W = .ok (.int .i64 64) W := fun ts t W => by
    rw [run_max_int2]; rfl
  have hquo : (C.length : Int).tdiv (q : Int) = ((C.length / q : Nat) : Int) := by
    rw [Int.tdiv_eq_ediv_of_nonneg (by omega)]; omega
  have hdiv : C.length / q ≤ C.length := Nat.div_le_self _ _
  have hq0 : ((q : Int) == 0) = false := by rw [beq_eq_false_iff_ne]; omega
  obtain ⟨sp, cap, e0, _, _⟩ := id h.com
  have hcap := h.cap _ _ _ e0
  subst e0
  have hend : Hid (∀ (w2 : World) (v1 : Value) (a1 : Option Addr), w2.heap = w.heap → w2.os = w.os → w2.tape = w.tape → w2.output = w.output → v1 = .slice a1 (C.length - n) (cap - n) → (a1 = sp.map (·.add n) ∨ cap = n ∧ a1 = sp) → QG S w x rv A R C n (.returned (.slice sp n cap)) (w2.setCell ⟨x, 1, none⟩ v1)) := Lib.hid fun w2 v1 a1 g1 g2 g3 g4 e1 ea => by
    subst e1
    have hbel : Below w.heap.size w w2 := ⟨g2, g3, g4, by rw [g1]; exact Nat.le_refl _, fun k _ => by rw [g1]⟩
    have hd := Rr.ints_drop ((h.below hbel).com) rfl hle ea hcap
    have ht := Rr.ints_take ((h.below hbel).com) rfl hle
    obtain ⟨g5, g6⟩ := h.queue (S' := S) hbel (fun k hk => hk) (fun k hk => h.off_home hk) hd (fun s n' c e => by cases e; omega)
    exact ⟨_, _, _, rfl, Lib.hid ⟨g6, g5, ht.wrote (wrote_setCell (a := ⟨x, 1, none⟩) (H := fun k => k = x) rfl rfl rfl rfl rfl) (fun k a b => h.sx (by rw [← show k = x from b]; exact a))⟩⟩
  clear hn h
  generalize C.length / q = d at *
  generalize hl : C.length = l at *
  clear hl
  push_cast at hmin
  go_enter Try.func68, Try.ntmps68
  go_wp2_with fail
  · subst h
    go_ret
    exact hend.out w _ sp rfl rfl rfl rfl (by rw [Nat.sub_self]) (.inr ⟨rfl, rfl⟩)
  · go_ret
    exact hend.out w _ _ rfl rfl rfl rfl rfl (.inl rfl)
/-- The ring at i is a new one. -/
theorem fresh {b off cap : Nat} (h : IsX S w x (.slice (some ⟨b, off, none⟩) R.length cap) lv A R C) (hi : i < R.length) : IsX (fun k => S k ∧ k ≠ w.heap.size) ((w.alloc (.cells #[.slice none 0 0, .slice none 0 0] 82)).setCell ⟨b, off + i, none⟩ (.pointer (some ⟨w.heap.size, 0, none⟩))) x (.slice (some ⟨b, off, none⟩) R.length cap) lv (A.set i w.heap.size) (R.set i rg0) C ∧ Wrote (home x (.slice (some ⟨b, off, none⟩) R.length cap) A) w (home x (.slice (some ⟨b, off, none⟩) R.length cap) (A.set i w.heap.size)) ((w.alloc (.cells #[.slice none 0 0, .slice none 0 0] 82)).setCell ⟨b, off + i, none⟩ (.pointer (some ⟨w.heap.size, 0, none⟩))) := by
  have hb := below_alloc (Below.refl w.heap.size w) (.cells #[.slice none 0 0, .slice none 0 0] 82)
  have hx := h.xlt
  have hbl : b < w.heap.size := h.row.lt rfl
  have hiA : i < A.length := by rw [h.len]; exact hi
  have hA : ∀ j, j < R.length → A.getD j 0 < w.heap.size := fun j hj => h.lt (.inr (.inr ⟨j, by rw [h.len]; exact hj, rfl⟩))
  have h1 := (h.toS (S' := fun k => S k ∧ k ≠ w.heap.size) (fun k hk hlt => ⟨hk, by omega⟩) (fun k hk e => h.off_home hk e.1)).below hb
  have hnew := heap_alloc_new w (.cells #[.slice none 0 0, .slice none 0 0] 82)
  generalize w.alloc (.cells #[.slice none 0 0, .slice none 0 0] 82) = u at *
  have hw : Wrote (fun k => k = b) u (fun k => k = b) (u.setCell ⟨b, off + i, none⟩ (.pointer (some ⟨w.heap.size, 0, none⟩))) := wrote_setCell (a := ⟨b, off + i, none⟩) rfl rfl rfl rfl rfl
  have hoS : Off (fun k => S k ∧ k ≠ w.heap.size) (fun k => k = b) := fun k e1 e2 => h.sr b rfl (by rw [← show k = b from e2]; exact e1.1)
  have hxb : x ≠ b := fun e => h.o1 (by rw [e]; rfl)
  have husz : w.heap.size < u.heap.size := block_lt hnew
  refine ⟨⟨by rw [hw.block x (block_lt h1.head) hxb]; exact h1.head, ?_, by rw [List.length_set, List.length_set]; exact h.len, fun j hj => ?_, h1.com.wrote hw hoS, h.cap, fun j k hj hk e => ?_, fun e => h.sx e.1, fun j hj => ?_, h.o1, fun j hj => ?_, fun k hk e => h.sr k hk e.1, fun j hj => ?_⟩, ?_⟩
  · have := h1.row.set (j := i) (u := .pointer (some ⟨w.heap.size, 0, none⟩)) (by omega)
    rw [List.length_set, show ptrs (A.set i w.heap.size) = (ptrs A).set i (.pointer (some ⟨w.heap.size, 0, none⟩)) by unfold ptrs; rw [List.map_set]]
    exact this
  · rw [List.length_set] at hj
    by_cases e : i = j
    · subst e
      rw [gset_self hiA, gset_self hi]
      exact ⟨.slice none 0 0, .slice none 0 0, by rw [hw.block _ husz (fun e => by have : w.heap.size = b := e; omega)]; exact hnew, ints_nil _ _, ints_nil _ _, fun s n c e => by cases e; omega⟩
    · rw [gset_ne e, gset_ne e]
      obtain ⟨nv, kv, hr⟩ := h1.rg j hj
      exact ⟨nv, kv, hr.wrote hw (fun e2 => (h.o2 j hj).2 (by rw [show A.getD j 0 = b from e2]; rfl)) hoS⟩
  · rw [List.length_set] at hj hk
    have hj2 := hA j hj
    have hk2 := hA k hk
    by_cases e1 : i = j
    · by_cases e2 : i = k
      · omega
      · subst e1
        rw [gset_self hiA, gset_ne e2] at e
        omega
    · by_cases e2 : i = k
      · subst e2
        rw [gset_self hiA, gset_ne e1] at e
        omega
      · rw [gset_ne e1, gset_ne e2] at e
        exact h.one j k hj hk e
  · rw [List.length_set] at hj
    by_cases e : i = j
    · subst e
      rw [gset_self hiA]; exact fun e => e.2 rfl
    · rw [gset_ne e]; exact fun e => h.sa j hj e.1
  · rw [List.length_set] at hj
    by_cases e : i = j
    · subst e
      rw [gset_self hiA]; exact ⟨by omega, fun e => by have : b = w.heap.size := Option.some.inj e; omega⟩
    · rw [gset_ne e]; exact h.o2 j hj
  · rw [List.length_set] at hj
    by_cases e : i = j
    · subst e
      rw [gset_self hi]; decide
    · rw [gset_ne e]; exact h.sm j hj
  · have h2 := (Wrote.of_below (H := fun k => k = b) hb).trans hw
    refine ⟨h2.os, h2.tape, h2.output, h2.size, fun k hk hn => h2.block k hk (fun e => hn (.inr (.inl (by rw [show k = b from e]; rfl)))), fun k hk => ?_⟩
    rcases hk with e | hk | ⟨j, hj, e⟩
    · exact .inl (.inl e)
    · exact .inl (.inr (.inl hk))
    · rw [List.length_set] at hj
      by_cases e1 : i = j
      · subst e1
        rw [gset_self hiA] at e
        exact .inr (by omega)
      · rw [gset_ne e1] at e
        exact .inl (.inr (.inr ⟨j, hj, e⟩))
set_option maxRecDepth 100000 in
set_option maxHeartbeats 1000000 in
theorem drop_in (h : IsX S w x rv lv A R C) (hi : i < R.length) (hn : R.length ≤ 64) (hl : C.length ≤ 800000) : Calls Try.prog 21 #[.pointer (some ⟨x, 0, none⟩), .int .i64 i] w (XS S (.int .i64 (rAll (R.getD i rg0)).length) w x rv A (R.set i rg0) (C ++ rAll (R.getD i rg0))) := by
  have ca := ring_all h hi (Below.refl _ _)
  have h257 : (rAll (R.getD i rg0)).length ≤ 257 := by
    rw [all_eq, List.length_append]
    have := h.sm i hi
    have h2 : (R.getD i rg0).1.toList.length ≤ 1 := by cases (R.getD i rg0).1 <;> simp
    omega
  obtain ⟨c0, _, _⟩ := h.cs
  obtain ⟨b, off, cap, rfl, h1, h2, c2, _⟩ := h.place hi
  generalize rAll (R.getD i rg0) = L at *
  have hnx : Hid (∀ w1 v', Rr.Made w L (.returned v') w1 → ∃ s c, v' = .slice s L.length c ∧ w1.cell? ⟨x, 0, none⟩ = some (.slice (some ⟨b, off, none⟩) R.length cap) ∧ (∃ pv, (w1.alloc (.cells #[.slice none 0 0, .slice none 0 0] 82)).cell? ⟨b, off + i, none⟩ = some pv) ∧ (w1.alloc (.cells #[.slice none 0 0, .slice none 0 0] 82)).frozen? ⟨b, off + i, none⟩ = false ∧ Calls Try.prog 17 #[.pointer (some ⟨x, 0, none⟩), v'] ((w1.alloc (.cells #[.slice none 0 0, .slice none 0 0] 82)).setCell ⟨b, off + i, none⟩ (.pointer (some ⟨w1.heap.size, 0, none⟩))) fun e w2 => e = .returned (.tuple #[]) ∧ Hid (XS S (.int .i64 L.length) w x (.slice (some ⟨b, off, none⟩) R.length cap) A (R.set i rg0) (C ++ L) (.returned (.int .i64 L.length)) w2)) := Lib.hid fun w1 v' ⟨v2, he, hr, hlow, hb⟩ => by
    cases he
    obtain ⟨s, c, e⟩ := hr.slice
    have hu := h.up.below hb
    have hf := ((h.below hb).below (below_alloc (Below.refl _ _) (.cells #[.slice none 0 0, .slice none 0 0] 82))).place hi
    obtain ⟨b9, off9, cap9, e9, _, _, hf8, hf9⟩ := hf
    cases e9
    obtain ⟨g1, g2⟩ := fresh hu hi
    have hi2 : Ints w1 (fun k => nS S w k ∧ k ≠ w1.heap.size) v' L := hr.ints.wider (fun k hk hlt => ⟨.inr (hlow k hk), by omega⟩)
    have hi3 := hi2.wrote g2 (fun k a1 a2 => h.up.off_home a2 a1.1)
    refine ⟨s, c, e, (h.below hb).cs.1, ⟨_, hf8⟩, hf9, (global_any g1 hi3 (by omega)).mono fun e w2 ⟨he, S2, rv2, lv2, A2, h6, h4, h5⟩ => ⟨he, Lib.hid ⟨rfl, S2, rv2, lv2, A2, ns_then (fun k hk => hk.1) (Nat.le_trans hb.size g2.size) h6, ((Wrote.of_below hb).trans g2).trans h4, h5⟩⟩⟩
  have i0 : (0 : Int) ≤ (i : Int) := by omega
  have i1 : ¬ (i : Int) < 0 := by omega
  have i2 : (i : Int) < (R.length : Int) := by omega
  have i3 : ¬ (R.length : Int) ≤ (i : Int) := by omega
  clear h h1 h2
  obtain ⟨lq, hlq⟩ : ∃ lq, L.length = lq := ⟨_, rfl⟩
  rw [hlq] at hnx h257 ⊢
  clear hlq
  generalize A.getD i 0 = a at *
  generalize hm : R.length = m at *
  clear hm
  go_enter Try.func21, Try.ntmps21
  go_wp2_with fail
  with_reducible refine Calls.mono ca ?_
  rintro e w1 hmd
  obtain ⟨v', rfl, g2, g3, g4⟩ := id hmd
  obtain ⟨s9, c9, rfl, d1, ⟨pv, d3⟩, d2, cg⟩ := hnx.out w1 v' hmd
  clear ca hnx g2 g3 g4 hmd c0 c2
  go_wp2_with fail
  with_reducible refine Calls.mono cg ?_
  rintro e w2 ⟨rfl, hgo⟩
  clear cg d1 d2 d3
  go_wp2_with fail
  go_ret
  exact hgo.out
set_option maxRecDepth 100000 in
theorem drop_out (h : IsX S w x rv lv A R C) (hi : g < 0 ∨ (R.length : Int) ≤ g) : Calls Try.prog 21 #[.pointer (some ⟨x, 0, none⟩), .int .i64 g] w (XS S (.int .i64 0) w x rv A R C) := by
  obtain ⟨c0, _, _⟩ := h.cs
  have hgo := Lib.hid (xs_still (v := .int .i64 0) h)
  obtain ⟨s, c, e⟩ := h.row.slice
  subst e
  clear h
  by_cases h0 : g < 0
  · go_enter Try.func21, Try.ntmps21
    go_wp2_with fail
    go_ret
    exact hgo.out
  · have h1 : (R.length : Int) ≤ g := by omega
    go_enter Try.func21, Try.ntmps21
    go_wp2_with fail
    go_ret
    exact hgo.out
end Dx
end Go.Proofs.Ytpclacaiabbmjaa
