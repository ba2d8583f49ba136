/- Add and New of package roots; the jobs of a session of a law; what all calls tell of them. -/
import Derived.Test.YtkpmifkdnndccaaRootsDo
import Derived.StillTailTactics
import Derived.Deep.RegionHeld3
import Derived.Deep.RegionWith
namespace Go.Proofs.Ytkpmifkdnndccaa
open Go.RowKit Go.Lib Fx Ho Gr Qu Rw
set_option linter.unusedVariables false
namespace Ro
variable {w w' : World} {p : Nat} {lv sv : Value} {J : List Job} {fr t : Int} {c : Nat} {S : List Int} {H H' : Home}
set_option maxRecDepth 100000 in
theorem next_nil (w : World) : Calls Try.prog 19 #[.pointer none] w fun e w' => e = .returned (.tuple #[jv (0, 0, 0), .bool false]) ∧ Below w.heap.size w w' := by
  have hbA : Below w.heap.size w (w.alloc (box3 0 0 0)) := below_alloc (Below.refl _ _) _
  have hbox : (w.alloc (box3 0 0 0)).heap[w.heap.size]? = some (.cells #[.int .i64 0, .int .i64 0, .int .i64 0] 32 (0, 0)) := heap_alloc_new _ _
  go_enter Try.func19, Try.ntmps19
  go_wp2_with fail
  trace_state
  obtain ⟨r0, r1, r2⟩ := box_cells hbox
  exact bodyPost_ret (v := .tuple #[jv (0, 0, 0), .bool false]) (by simp [results, Try.results19, go_sem, r0, r1, r2]) rfl ⟨rfl, hbA⟩
set_option maxRecDepth 100000 in
theorem left_nil (w : World) : Calls Try.prog 21 #[.pointer none] w (Still (.int .i64 0) w) := by
  go_enter Try.func21, Try.ntmps21
  go_wp2_with fail
  go_ret
  exact ⟨rfl, rfl⟩
theorem clone_ints {v : Value} {zs : List Int} {B : Home} (h : Ints w B v zs) (hs : zs.length ≤ 1000000) : Calls Try.prog 75 #[v] w fun e w' => ∃ v', e = .returned v' ∧ OffRow w' v' zs ∧ Low w.heap.size (fun k => v'.ownBlock = some k) ∧ Below w.heap.size w w' := by
  obtain ⟨sp, cap, rfl, hm, hc⟩ := h
  have hend : ∀ (v' : Value) (W : World), W.ownsRow w.heap.size 3 1 v' zs.length (cells zs) → OffRow W v' zs ∧ Low w.heap.size (fun k => v'.ownBlock = some k) := fun v' W ho => ⟨off_of_owns ho, low_of_owns ho⟩
  cases sp with
  | none =>
    have hz : zs = [] := by
      cases zs with
      | nil => rfl
      | cons x r => obtain ⟨b, off, e, _⟩ := hc 0 (by simp); cases e
    subst hz
    exact (Try.slices_Clone_int_nil _ _ w).mono fun e w' ⟨h1, h2⟩ => by subst h2; exact ⟨_, h1, offrow_nil _, low_nil _, Below.refl _ _⟩
  | some a =>
    rcases Nat.eq_zero_or_pos zs.length with h0 | h0
    · have hz : zs = [] := List.eq_nil_of_length_eq_zero h0
      subst hz
      exact (Try.slices_Clone_int_zero a cap w).mono fun e w' ⟨v', h1, h2, _, h4⟩ => ⟨v', h1, (hend v' w' h2).1, (hend v' w' h2).2, h4⟩
    · obtain ⟨b, off, e, _⟩ := hc 0 h0
      cases e
      refine (Try.slices_Clone_int b off zs.length cap zs w (Nat.le_refl _) (by omega) (fun j hj => ?_)).mono fun e w' ⟨v', h1, h2, _, h4⟩ => ?_
      · obtain ⟨b2, off2, e2, _, _, h5⟩ := hc j hj
        cases e2
        exact h5
      · rw [List.take_of_length_le (Nat.le_refl _)] at h2
        exact ⟨v', h1, (hend v' w' h2).1, (hend v' w' h2).2, h4⟩
/-- The stacks are others. -/
theorem IsRo.put (h : IsRo w p lv sv J fr t c S) {w1 : World} {sv1 : Value} {zs : List Int} (hr : OffRow w1 sv1 zs) (hw : Wrote (fun k => sv.ownBlock = some k) w (fun k => sv1.ownBlock = some k) w1) :
    IsRo (w1.setCell ⟨p, 3, none⟩ sv1) p lv sv1 J fr t c zs ∧ Wrote (home p lv sv) w (home p lv sv1) (w1.setCell ⟨p, 3, none⟩ sv1) := by
  have hp := block_lt h.head
  have hd : w1.heap[p]? = w.heap[p]? := hw.block p hp h.o2
  have hld : GRow 3 w1 lv J.length (jcells J) := h.laid.wrote hw (fun k hk e => h.o3 k hk e)
  have o2 : sv1.ownBlock ≠ some p := fun e => (hw.home p e).elim h.o2 (fun h2 => by omega)
  have o3 : ∀ k, lv.ownBlock = some k → sv1.ownBlock ≠ some k := fun k hk e => (hw.home k e).elim (fun h2 => h.o3 k hk h2) (fun h2 => by have := h.laid.lt hk; omega)
  have hw2 : Wrote (fun k => k = p) w1 (fun k => k = p) (w1.setCell ⟨p, 3, none⟩ sv1) := wrote_setCell (H := fun k => k = p) (a := ⟨p, 3, none⟩) (u := sv1) rfl rfl rfl rfl rfl
  refine ⟨⟨?_, hld.wrote hw2 (fun k hk e => h.o1 (by rw [hk, e])), hr.wrote hw2 (fun k hk e => o2 (by rw [hk, e])), h.o1, o2, o3, h.b0, h.b1, h.b2, h.bc, h.bj⟩, ⟨hw2.os.trans hw.os, hw2.tape.trans hw.tape, hw2.output.trans hw.output, Nat.le_trans hw.size hw2.size, fun k hk hn => (hw2.block k (Nat.lt_of_lt_of_le hk hw.size) (fun e => hn (Or.inl e))).trans (hw.block k hk (fun e => hn (Or.inr (Or.inr e)))), fun k hk => ?_⟩⟩
  · rw [heap_setCell_same _ p 3 _ _ _ (hd.trans h.head)]; rfl
  · rcases hk with hk | hk | hk
    · exact Or.inl (Or.inl hk)
    · exact Or.inl (Or.inr (Or.inl hk))
    · exact (hw.home k hk).elim (fun h2 => Or.inl (Or.inr (Or.inr h2))) Or.inr
/-- Add has ended, and the stacks are so. -/
def AddP (w : World) (p : Nat) (lv sv : Value) (J : List Job) (fr t : Int) (c : Nat) (S : List Int) (e : Ending) (w' : World) : Prop := e = .returned (.tuple #[]) ∧ ∃ sv', Wrote (home p lv sv) w (home p lv sv') w' ∧ IsRo w' p lv sv' J fr t c S
theorem ints_of_off {v : Value} {zs : List Int} (h : OffRow w v zs) : Ints w (fun k => v.ownBlock = some k) v zs := h.ints
set_option maxRecDepth 100000 in
theorem add_in {g : Int} (h : IsRo w p lv sv J fr t c S) (hg : g ∈ S) : Calls Try.prog 20 #[.pointer (some ⟨p, 0, none⟩), .int .i64 g] w (AddP w p lv sv J fr t c S) := by
  obtain ⟨c0, c1, c2, c3, f0, f1, f3⟩ := h.cs
  have cc := contains_any (x := g) h.st.ints
  rw [show S.contains g = true by simpa using hg] at cc
  replace h := Lib.hid h
  go_enter Try.func20, Try.ntmps20
  go_wp2_with fail
  with_reducible refine Calls.mono (cc) ?_
  rintro e w2 hcc
  obtain ⟨rfl, rfl⟩ := hcc
  go_wp2_with fail
  go_end0
  exact ⟨rfl, sv, Wrote.refl _ _, h.out⟩
set_option maxRecDepth 100000 in
theorem add_new {g : Int} (h : IsRo w p lv sv J fr t c S) (hg : g ∉ S) (hs : S.length + [g].length ≤ 1000000) : Calls Try.prog 20 #[.pointer (some ⟨p, 0, none⟩), .int .i64 g] w (AddP w p lv sv J fr t c (S ++ [g])) := by
  obtain ⟨c0, c1, c2, c3, f0, f1, f3⟩ := h.cs
  have cc := contains_any (x := g) h.st.ints
  rw [show S.contains g = false by simpa using hg] at cc
  obtain ⟨s1, k1, e⟩ := h.st.slice
  subst e
  have h9 := Lib.hid h
  clear h
  go_enter Try.func20, Try.ntmps20
  go_wp2_with fail
  with_reducible refine Calls.mono (cc) ?_
  rintro e w9 hcc
  obtain ⟨rfl, rfl⟩ := hcc
  have h := h9.out
  clear cc h9
  have hb := below_alloc (Below.refl _ w) (.cells #[.int .i64 g] 3)
  have h2 := h.below hb
  have key : Hid (∀ v1 w1, OffRow w1 v1 (S ++ [g]) → Wrote (fun k => (Value.slice s1 S.length k1).ownBlock = some k) (w.alloc (.cells #[.int .i64 g] 3)) (fun k => v1.ownBlock = some k) w1 →
      w1.cell? ⟨p, 3, none⟩ = some (.slice s1 S.length k1) ∧ w1.frozen? ⟨p, 3, none⟩ = false ∧ Hid (AddP w p lv (.slice s1 S.length k1) J fr t c (S ++ [g]) (.returned (.tuple #[])) (w1.setCell ⟨p, 3, none⟩ v1))) := Lib.hid fun v1 w1 g1 g2 => by
    have hd := (g2.block p (block_lt h2.head) h2.o2).trans h2.head
    obtain ⟨q1, q2⟩ := h2.put g1 g2
    exact ⟨cell_of hd rfl, frozen_of_row w1 p 3 _ _ hd, Lib.hid ⟨rfl, v1, (wrote_new hb).trans q2, q1⟩⟩
  have hrow := Lib.hid h2.st
  have hsrc := Lib.hid (src_one w g)
  have hpl := block_lt h.head
  clear h h2 hb
  go_wp2_with (first | (at_builtin; refine wpList_append_off rfl (.tmp 19) (.tmp 21) rfl rfl hrow.out rfl rfl hsrc.out hs ?_; intro v1 w1 hrow1 hw1; have hk := key.out v1 w1 hrow1 hw1; obtain ⟨f4, f5, hfin⟩ := hk; obtain ⟨sp1, cap1, rfl⟩ := hrow1.slice; clear key hrow1 hw1 hrow hsrc) | fail)
  go_end0
  have hz := hfin.out
  rw [show (S ++ [g]).length = S.length + 1 by simp] at hz
  exact hz
/-- New has made these. -/
def NewP (w : World) (t : Int) (S : List Int) (e : Ending) (w' : World) : Prop := ∃ p sv c, e = .returned (.pointer (some ⟨p, 0, none⟩)) ∧ IsRo w' p (.slice none 0 0) sv [] 0 t c S ∧ Low w.heap.size (home p (.slice none 0 0) sv) ∧ Below w.heap.size w w'
set_option maxRecDepth 100000 in
theorem new_any {n t : Int} {v : Value} {B : Home} (h : Ints w B v S) (hs : S.length ≤ 1000000) (hn : max n 0 = t) (ht : t ≤ 1000000) : Calls Try.prog 17 #[.int .i64 n, v] w (NewP w t S) := by
  have r1 := @run_max2 Try.prog _ _ _ hn
  have cc := clone_ints h hs
  have hend : Hid (∀ w1 v', OffRow w1 v' S → Low w.heap.size (fun k => v'.ownBlock = some k) → Below w.heap.size w w1 → NewP w t S (.returned (.pointer (some ⟨w1.heap.size, 0, none⟩))) (w1.alloc (.cells #[.slice none 0 0, .int .i64 0, .int .i64 t, v'] 107))) := Lib.hid fun w1 v' g1 g2 g3 => by
    have hb := below_alloc (Below.refl _ w1) (.cells #[.slice none 0 0, .int .i64 0, .int .i64 t, v'] 107)
    have hcb := cnt_bd (n := t - 0) (by omega) (by omega)
    refine ⟨w1.heap.size, v', (cntJ (t - 0)).toNat, rfl, ⟨heap_alloc_new _ _, grow_nil 3 _, off_below g1 hb, by simp [Value.ownBlock], fun e => ?_, fun k e => by simp [Value.ownBlock] at e, Int.le_refl _, by omega, ht, by omega, by simp⟩, fun k hk => ?_, g3.trans (hb.mono g3.size)⟩
    · have := g1.lt e; omega
    · rcases hk with hk | hk | hk
      · have := g3.size; omega
      · simp [Value.ownBlock] at hk
      · exact g2 k hk
  obtain ⟨sp, cap, rfl, _⟩ := h
  go_enter Try.func17, Try.ntmps17
  go_wp2_with fail
  with_reducible refine Calls.mono cc ?_
  rintro e w1 ⟨v', rfl, g1, g2, g3⟩
  have hfin := hend.out w1 v' g1 g2 g3
  obtain ⟨s1, k1, rfl⟩ := g1.slice
  clear hend cc g1 g2 g3
  go_wp2_with fail
  go_ret
  exact hfin
/-- A session of a law: A are the jobs of globals, S the goroutines; H is where they lie. -/
def Sro (W0 w : World) (p : Nat) (H : Home) (A : List Job) (S : List Int) : Prop := ∃ lv sv J fr t c, IsRo w p lv sv J fr t c S ∧ Low W0.heap.size H ∧ Below W0.heap.size W0 w ∧ J ++ gj t c fr = A ∧ H = home p lv sv
namespace Sro
variable {W0 W : World} {A : List Job}
theorem left (h : Sro W0 W p H A S) (hs : S.length ≤ 1000000) : Calls Try.prog 21 #[.pointer (some ⟨p, 0, none⟩)] W (Ans (.int .i64 ((A.length + S.length : Nat) : Int)) W) := by
  obtain ⟨lv, sv, J, fr, t, c, h1, h2, h3, h4, h5⟩ := h
  have := left_any h1 hs
  rw [show (vw J fr t c S).length = A.length + S.length by unfold vw sj; rw [h4, List.length_append, List.length_map]] at this
  exact this
theorem out (h : Sro W0 W p H A S) : Below W0.heap.size W0 W := by obtain ⟨lv, sv, J, fr, t, c, h1, h2, h3, h4⟩ := h; exact h3
theorem lt (h : Sro W0 W p H A S) : p < W.heap.size := by obtain ⟨lv, sv, J, fr, t, c, h1, h2, h3, h4⟩ := h; exact block_lt h1.head
theorem hlt (h : Sro W0 W p H A S) {k : Nat} (hk : H k) : k < W.heap.size := by obtain ⟨lv, sv, J, fr, t, c, h1, h2, h3, h4, rfl⟩ := h; exact h1.lt hk
theorem low (h : Sro W0 W p H A S) : Low W0.heap.size H := by obtain ⟨lv, sv, J, fr, t, c, h1, h2, h3, h4, rfl⟩ := h; exact h2
theorem wrote {H1 H2 : Home} (h : Sro W0 W p H A S) {W' : World} (hw : Wrote H1 W H2 W') (ho : Off H H1) (hl : Low W0.heap.size H1) : Sro W0 W' p H A S := by
  obtain ⟨lv, sv, J, fr, t, c, h1, h2, h3, h4, rfl⟩ := h
  exact ⟨lv, sv, J, fr, t, c, h1.wrote hw ho, h2, h3.trans (below_of_wrote hw hl h3.size), h4, rfl⟩
theorem below (h : Sro W0 W p H A S) {W' : World} (hb : Below W.heap.size W W') : Sro W0 W' p H A S := by
  obtain ⟨lv, sv, J, fr, t, c, h1, h2, h3, h4, h5⟩ := h
  exact ⟨lv, sv, J, fr, t, c, h1.below hb, h2, h3.trans (hb.mono h3.size), h4, h5⟩
theorem next (h : Sro W0 W p H A S) : Calls Try.prog 19 #[.pointer (some ⟨p, 0, none⟩)] W fun e W' => e = .returned (nextV A S) ∧ ∃ H', Wrote H W H' W' ∧ Sro W0 W' p H' A.tail (nextS A S) := by
  obtain ⟨lv, sv, J, fr, t, c, h1, h2, h3, rfl, rfl⟩ := h
  refine (next_any h1).mono fun e W' ⟨g1, lv', sv', J', fr', c', g2, g3, g4⟩ => ⟨g1, _, g2, lv', sv', J', fr', t, c', g3, g2.low h2 h3.size, h3.trans (below_of_wrote g2 h2 h3.size), g4, rfl⟩
theorem add (h : Sro W0 W p H A S) (g : Int) (hs : S.length < 1000000) : Calls Try.prog 20 #[.pointer (some ⟨p, 0, none⟩), .int .i64 g] W fun e W' => e = .returned (.tuple #[]) ∧ ∃ H', Wrote H W H' W' ∧ Sro W0 W' p H' A (if g ∈ S then S else S ++ [g]) := by
  obtain ⟨lv, sv, J, fr, t, c, h1, h2, h3, h4, rfl⟩ := h
  by_cases hg : g ∈ S
  · rw [if_pos hg]
    exact (add_in h1 hg).mono fun e W' ⟨g1, sv', g2, g3⟩ => ⟨g1, _, g2, lv, sv', J, fr, t, c, g3, g2.low h2 h3.size, h3.trans (below_of_wrote g2 h2 h3.size), h4, rfl⟩
  · rw [if_neg hg]
    exact (add_new h1 hg (by simp; omega)).mono fun e W' ⟨g1, sv', g2, g3⟩ => ⟨g1, _, g2, lv, sv', J, fr, t, c, g3, g2.low h2 h3.size, h3.trans (below_of_wrote g2 h2 h3.size), h4, rfl⟩
end Sro
/-- The jobs of so many globals. -/
def gjobs (t : Int) : List Job := gj t (cntJ t).toNat 0
theorem new_sro {n t : Int} {v : Value} {B : Home} (h : Ints w B v S) (hs : S.length ≤ 1000000) (hn : max n 0 = t) (ht : t ≤ 1000000) : Calls Try.prog 17 #[.int .i64 n, v] w fun e w' => ∃ p H, e = .returned (.pointer (some ⟨p, 0, none⟩)) ∧ w.heap.size ≤ p ∧ Sro w w' p H (gjobs t) S :=
  (new_any h hs hn ht).mono fun e w' ⟨p, sv, c, h1, h2, h3, h4⟩ => ⟨p, _, h1, h3 p (.inl rfl), _, _, _, _, _, _, h2, h3, h4, by
    have := h2.bc
    rw [show t - 0 = t by omega] at this
    unfold gjobs
    rw [this]; rfl, rfl⟩
/-- A job that a law keeps in a box. -/
structure Kp (W : World) (H : Home) (b : Nat) (j : Job) : Prop where
  blk : W.heap[b]? = some (.cells #[.int .i64 j.1, .int .i64 j.2.1, .int .i64 j.2.2] 32 (0, 0))
  off : ¬ H b
namespace Kp
variable {W W' : World} {b : Nat} {j : Job}
theorem step {H' : Home} (h : Kp W H b j) (hw : Wrote H W H' W') : Kp W' H' b j :=
  ⟨(hw.block b (block_lt h.blk) h.off).trans h.blk, fun e => (hw.home b e).elim h.off (fun e2 => by have := block_lt h.blk; omega)⟩
theorem below (h : Kp W H b j) (hb : Below W.heap.size W W') : Kp W' H b j := ⟨(hb.block b (block_lt h.blk)).trans h.blk, h.off⟩
theorem new {W0 : World} {A : List Job} (h : Sro W0 W p H A S) (j : Job) : Kp (W.alloc (box3 j.1 j.2.1 j.2.2)) H W.heap.size j := ⟨heap_alloc_new _ _, fun e => by have := h.hlt e; omega⟩
theorem cs (h : Kp W H b j) : W.cell? ⟨b, 0, none⟩ = some (.int .i64 j.1) ∧ W.cell? ⟨b, 1, none⟩ = some (.int .i64 j.2.1) ∧ W.cell? ⟨b, 2, none⟩ = some (.int .i64 j.2.2) := box_cells h.blk
end Kp
theorem told_jobs : gjobs 9 = [(-1, 0, 8), (-1, 8, 9)] := by decide
set_option maxRecDepth 100000 in
set_option maxHeartbeats 2000000 in
theorem told_any (w : World) : Calls Try.prog 16 #[] w (AnsB (.bool true) w) := by
  have hb0 : Below w.heap.size w (w.alloc (.cells #[.int .i64 4] 3)) := below_alloc (Below.refl _ _) _
  have hl := ints_lit w [4] 1 rfl (by omega) (A := #[.int .i64 4]) rfl
  have cn := new_sro (n := 9) (t := 9) hl (by simp) (by omega) (by omega)
  rw [told_jobs] at cn
  clear hl
  go_enter Try.func16, Try.ntmps16
  go_wp2_with fail
  with_reducible refine Calls.mono (cn) ?_
  rintro e w1 ⟨p, H, rfl, hp, hs⟩
  clear cn
  have cl := hs.left (by simp)
  replace hs := Lib.hid hs
  go_wp2_with fail
  with_reducible refine Calls.mono (cl) ?_
  rintro e w2 ⟨rfl, m, rfl⟩
  have hs2 := hs.out.below (below_drewN (Below.refl _ _) m)
  generalize w1.drewN m = w2 at *
  clear cl hs
  have cx : Calls Try.prog 19 #[.pointer (some ⟨p, 0, none⟩)] w2 fun e W' => e = .returned (.tuple #[jv (-1, 0, 8), .bool true]) ∧ ∃ H', Wrote H w2 H' W' ∧ Sro (w.alloc (.cells #[.int .i64 4] 3)) W' p H' [(-1, 8, 9)] [4] := hs2.next
  clear hs2
  go_wp2_with fail
  with_reducible refine Calls.mono (cx) ?_
  rintro e w3 ⟨rfl, H3, -, hs⟩
  clear cx
  have b3 := below_alloc (Below.refl _ w3) (box3 (-1) 0 8)
  have k3 := Kp.new hs (-1, 0, 8)
  have hs := hs.below b3
  have cx : Calls Try.prog 19 #[.pointer (some ⟨p, 0, none⟩)] (w3.alloc (box3 (-1) 0 8)) fun e W' => e = .returned (.tuple #[jv (-1, 8, 9), .bool true]) ∧ ∃ H', Wrote H3 (w3.alloc (box3 (-1) 0 8)) H' W' ∧ Sro (w.alloc (.cells #[.int .i64 4] 3)) W' p H' [] [4] := hs.next
  clear hs
  replace k3 := Lib.hid k3
  go_wp2_with fail
  with_reducible refine Calls.mono (cx) ?_
  rintro e w4 ⟨rfl, H4, hw, hs⟩
  have k3 := k3.out.step hw
  clear cx b3 hw
  generalize w3.heap.size = o3 at *
  have b4 := below_alloc (Below.refl _ w4) (box3 (-1) 8 9)
  have k4 := Kp.new hs (-1, 8, 9)
  have k3 := k3.below b4
  have hs := hs.below b4
  have cx : Calls Try.prog 19 #[.pointer (some ⟨p, 0, none⟩)] (w4.alloc (box3 (-1) 8 9)) fun e W' => e = .returned (.tuple #[jv (4, 0, 16), .bool true]) ∧ ∃ H', Wrote H4 (w4.alloc (box3 (-1) 8 9)) H' W' ∧ Sro (w.alloc (.cells #[.int .i64 4] 3)) W' p H' [] [] := hs.next
  clear hs
  replace k3 := Lib.hid k3
  replace k4 := Lib.hid k4
  go_wp2_with fail
  with_reducible refine Calls.mono (cx) ?_
  rintro e w5 ⟨rfl, H5, hw, hs⟩
  have k3 := k3.out.step hw
  have k4 := k4.out.step hw
  clear cx b4 hw
  generalize w4.heap.size = o4 at *
  have b5 := below_alloc (Below.refl _ w5) (box3 4 0 16)
  have k5 := Kp.new hs (4, 0, 16)
  have k3 := k3.below b5
  have k4 := k4.below b5
  have hs := hs.below b5
  have cx : Calls Try.prog 19 #[.pointer (some ⟨p, 0, none⟩)] (w5.alloc (box3 4 0 16)) fun e W' => e = .returned (.tuple #[jv (0, 0, 0), .bool false]) ∧ ∃ H', Wrote H5 (w5.alloc (box3 4 0 16)) H' W' ∧ Sro (w.alloc (.cells #[.int .i64 4] 3)) W' p H' [] [] := hs.next
  clear hs
  replace k3 := Lib.hid k3
  replace k4 := Lib.hid k4
  replace k5 := Lib.hid k5
  go_wp2_with fail
  with_reducible refine Calls.mono (cx) ?_
  rintro e w6 ⟨rfl, H6, hw, hs⟩
  have k3 := k3.out.step hw
  have k4 := k4.out.step hw
  have k5 := k5.out.step hw
  clear cx b5 hw
  generalize w5.heap.size = o5 at *
  have b6 := below_alloc (Below.refl _ w6) (box3 0 0 0)
  obtain ⟨x0, x1, x2⟩ := (k3.below b6).cs
  obtain ⟨y0, y1, y2⟩ := (k4.below b6).cs
  obtain ⟨z0, z1, z2⟩ := (k5.below b6).cs
  have hb := (hb0.trans (hs.out.mono hb0.size)).trans (b6.mono (Nat.le_trans hb0.size hs.out.size))
  clear k3 k4 k5 hs b6
  go_wp2_with fail
  go_ret
  exact ⟨rfl, hb⟩
end Ro
end Go.Proofs.Ytkpmifkdnndccaa
