/- Where marking begins: jobs as they lie, and what the calls of package roots answer of them and make of them. -/
import Derived.Test.YtkpmifkdnndccaaGRow
import Derived.Test.YtkpmifkdnndccaaQueueDel
import Derived.Test.YtkpmifkdnndccaaMinMax
import Derived.StillTailTactics
import Derived.Deep.RegionHeld3
import Derived.Deep.RegionWith
namespace Go.Proofs.Ytkpmifkdnndccaa
open Go.RowKit Go.Lib Fx Ho Gr Qu Rw
set_option linter.unusedVariables false
namespace Ro
abbrev Job := Int × Int × Int
/-- Jobs as the cells of a slice. -/
def jcells : List Job → List Value
  | [] => []
  | j :: J => .int .i64 j.1 :: .int .i64 j.2.1 :: .int .i64 j.2.2 :: jcells J
theorem jcells_len : ∀ J, (jcells J).length = J.length * 3
  | [] => rfl
  | j :: J => by simp only [jcells, List.length_cons, jcells_len J]; omega
theorem jcells_app : ∀ A B, jcells (A ++ B) = jcells A ++ jcells B
  | [], B => rfl
  | j :: A, B => by simp only [List.cons_append, jcells, jcells_app A B]
theorem jcells_drop : ∀ (k : Nat) (J : List Job), (jcells J).drop (k * 3) = jcells (J.drop k)
  | 0, J => by simp
  | k + 1, [] => by simp [jcells]
  | k + 1, j :: J => by
    rw [show (k + 1) * 3 = k * 3 + 1 + 1 + 1 by omega]
    simp only [jcells, List.drop_succ_cons, jcells_drop k J]
/-- How many jobs n globals come to. -/
def cntJ (n : Int) : Int := n / 8 + min (n % 8) 1
/-- Jobs of globals, c of them, from fr on. -/
def gj (to' : Int) : Nat → Int → List Job
  | 0, _ => []
  | c + 1, fr => (-1, fr, fr + min (to' - fr) 8) :: gj to' c (fr + min (to' - fr) 8)
theorem gj_len (t : Int) : ∀ c fr, (gj t c fr).length = c
  | 0, _ => rfl
  | c + 1, fr => by show (gj t c _).length + 1 = _; rw [gj_len t c]
theorem cnt_step {n : Int} {c : Nat} (h0 : 0 ≤ n) (h : cntJ n = ((c + 1 : Nat) : Int)) : 0 < n ∧ cntJ (n - min n 8) = (c : Int) ∧ 0 ≤ n - min n 8 := by
  unfold cntJ at *; omega
theorem cnt_none {n : Int} (h0 : 0 ≤ n) (h : cntJ n = 0) : n = 0 := by unfold cntJ at h; omega
theorem cnt_bd {n : Int} (h0 : 0 ≤ n) (h1 : n ≤ 1000000) : 0 ≤ cntJ n ∧ cntJ n ≤ 125001 := by unfold cntJ; omega
/-- The jobs of stacks. -/
def sj (S : List Int) : List Job := S.map fun g => (g, 0, 16)
/-- Roots at p: J are laid, of the globals from fr to t no job is laid yet, S are the goroutines. -/
structure IsRo (w : World) (p : Nat) (lv sv : Value) (J : List Job) (fr t : Int) (c : Nat) (S : List Int) : Prop where
  head : w.heap[p]? = some (.cells #[lv, .int .i64 fr, .int .i64 t, sv] 107 (0, 0))
  laid : GRow 3 w lv J.length (jcells J)
  st : OffRow w sv S
  o1 : lv.ownBlock ≠ some p
  o2 : sv.ownBlock ≠ some p
  o3 : ∀ k, lv.ownBlock = some k → sv.ownBlock ≠ some k
  b0 : 0 ≤ fr
  b1 : fr ≤ t
  b2 : t ≤ 1000000
  bc : cntJ (t - fr) = (c : Int)
  bj : J.length ≤ 4
def home (p : Nat) (lv sv : Value) : Home := fun k => k = p ∨ lv.ownBlock = some k ∨ sv.ownBlock = some k
/-- All jobs, in their order. -/
def vw (J : List Job) (fr t : Int) (c : Nat) (S : List Int) : List Job := J ++ gj t c fr ++ sj S
variable {w w' : World} {p : Nat} {lv sv : Value} {J : List Job} {fr t : Int} {c : Nat} {S : List Int} {H H' : Home}
theorem eltJ : Elt Try.prog 27 32 3 24 (.agg #[.int .i64 0, .int .i64 0, .int .i64 0]) :=
  ⟨Try.underlying27, by kernel_rfl, rfl, by decide, by decide⟩
namespace IsRo
theorem lt (h : IsRo w p lv sv J fr t c S) {k : Nat} (hk : home p lv sv k) : k < w.heap.size :=
  hk.elim (fun e => e ▸ block_lt h.head) (fun e => e.elim h.laid.lt h.st.lt)
theorem wrote (h : IsRo w p lv sv J fr t c S) (ht : Wrote H w H' w') (ho : Off (home p lv sv) H) : IsRo w' p lv sv J fr t c S :=
  ⟨by rw [ht.block p (block_lt h.head) (fun h' => ho p (Or.inl rfl) h')]; exact h.head, h.laid.wrote ht (fun k hk h' => ho k (Or.inr (Or.inl hk)) h'), h.st.wrote ht (fun k hk h' => ho k (Or.inr (Or.inr hk)) h'), h.o1, h.o2, h.o3, h.b0, h.b1, h.b2, h.bc, h.bj⟩
theorem below (h : IsRo w p lv sv J fr t c S) (hb : Below w.heap.size w w') : IsRo w' p lv sv J fr t c S := h.wrote (H := fun _ => False) (Wrote.of_below hb) (fun _ _ h => h)
theorem cs (h : IsRo w p lv sv J fr t c S) : w.cell? ⟨p, 0, none⟩ = some lv ∧ w.cell? ⟨p, 1, none⟩ = some (.int .i64 fr) ∧ w.cell? ⟨p, 2, none⟩ = some (.int .i64 t) ∧ w.cell? ⟨p, 3, none⟩ = some sv ∧
    w.frozen? ⟨p, 0, none⟩ = false ∧ w.frozen? ⟨p, 1, none⟩ = false ∧ w.frozen? ⟨p, 3, none⟩ = false := by
  unfold World.cell? World.frozen?; rw [h.head]; exact ⟨rfl, rfl, rfl, rfl, rfl, rfl, rfl⟩
end IsRo
set_option maxRecDepth 100000 in
theorem jobs_any (n : Int) (h0 : 0 ≤ n) (h1 : n ≤ 1000000) (w : World) : Calls Try.prog 78 #[.int .i64 n] w (Still (.int .i64 (cntJ n)) w) := by
  obtain ⟨m, hm⟩ : ∃ m, min (n % 8) 1 = m := ⟨_, rfl⟩
  have m1 := @run_min2 Try.prog _ _ _ hm
  have m2 : 0 ≤ m := by omega
  have m3 : m ≤ 1 := by omega
  unfold cntJ
  rw [hm]
  clear hm
  go_enter Try.func78, Try.ntmps78
  go_wp2_with fail
  go_ret
  exact ⟨rfl, rfl⟩
set_option maxRecDepth 100000 in
theorem left_any (h : IsRo w p lv sv J fr t c S) (hs : S.length ≤ 1000000) : Calls Try.prog 21 #[.pointer (some ⟨p, 0, none⟩)] w (Ans (.int .i64 (vw J fr t c S).length) w) := by
  obtain ⟨c0, c1, c2, c3, f0, f1, f3⟩ := h.cs
  have cj := fun w => jobs_any (t - fr) (by have := h.b1; omega) (by have := h.b0; have := h.b2; omega) w
  have b0 := h.b0
  have b1 := h.b1
  have b2 := h.b2
  have bj := h.bj
  have hcb := cnt_bd (n := t - fr) (by omega) (by omega)
  rw [h.bc] at cj hcb
  obtain ⟨s1, k1, e1⟩ := h.laid.slice
  obtain ⟨s2, k2, e2⟩ := h.st.slice
  subst e1 e2
  have hv : (vw J fr t c S).length = J.length + c + S.length := by unfold vw sj; rw [List.length_append, List.length_append, gj_len, List.length_map]
  rw [hv]
  clear h hv
  generalize J.length = a at *
  generalize S.length = b at *
  have q1 : IntKind.i64.wrap (t - fr) = t - fr := IntWalk.i64_in _ ⟨by omega, by omega⟩
  have q2 : IntKind.i64.wrap ((a : Int) + (c : Int)) = (a : Int) + (c : Int) := IntWalk.i64_in _ ⟨by omega, by omega⟩
  have q3 : IntKind.i64.wrap ((a : Int) + (c : Int) + (b : Int)) = (a : Int) + (c : Int) + (b : Int) := IntWalk.i64_in _ ⟨by omega, by omega⟩
  go_enter Try.func21, Try.ntmps21
  go_wp2_with fail
  go_quiet ((go_at_call 78; exact quiet_ans0 (fun W => ans_of_same (cj W))))
  go_wp2_with fail
  go_ret
  exact ⟨by rw [Int.natCast_add, Int.natCast_add]; rfl, _, rfl⟩
/-- One job more is laid. -/
theorem IsRo.laying (h : IsRo w p lv sv J fr t (c + 1) S) (hj : J.length ≤ 3) {w1 W : World} {lv1 : Value} (hg : GRow 3 w1 lv1 (J.length + 1) (jcells J ++ jcells [(-1, fr, fr + min (t - fr) 8)])) (hw : Wrote (fun k => lv.ownBlock = some k) w (fun k => lv1.ownBlock = some k) w1)
    (hW : W = (w1.setCell ⟨p, 0, none⟩ lv1).setCell ⟨p, 1, none⟩ (.int .i64 (fr + min (t - fr) 8))) :
    IsRo W p lv1 sv (J ++ [(-1, fr, fr + min (t - fr) 8)]) (fr + min (t - fr) 8) t c S ∧ Wrote (home p lv sv) w (home p lv1 sv) W ∧ vw (J ++ [(-1, fr, fr + min (t - fr) 8)]) (fr + min (t - fr) 8) t c S = vw J fr t (c + 1) S := by
  subst hW
  have hp := block_lt h.head
  have hd : w1.heap[p]? = w.heap[p]? := hw.block p hp h.o1
  have hst : OffRow w1 sv S := h.st.wrote hw (fun k hk e => h.o3 k e hk)
  have o1 : lv1.ownBlock ≠ some p := fun e => (hw.home p e).elim h.o1 (fun h2 => by omega)
  have o3 : ∀ k, lv1.ownBlock = some k → sv.ownBlock ≠ some k := fun k hk e => (hw.home k hk).elim (fun h2 => h.o3 k h2 e) (fun h2 => by have := h.st.lt e; omega)
  have hw2 : Wrote (fun k => k = p) w1 (fun k => k = p) ((w1.setCell ⟨p, 0, none⟩ lv1).setCell ⟨p, 1, none⟩ (.int .i64 (fr + min (t - fr) 8))) :=
    (wrote_setCell (H := fun k => k = p) (a := ⟨p, 0, none⟩) (u := lv1) rfl rfl rfl rfl rfl).trans (wrote_setCell (H := fun k => k = p) (a := ⟨p, 1, none⟩) (u := .int .i64 (fr + min (t - fr) 8)) rfl rfl rfl rfl rfl)
  have hb0 := h.b0
  have hb1 := h.b1
  have hb2 := h.b2
  obtain ⟨e1, e2, e3⟩ := cnt_step (n := t - fr) (by omega) h.bc
  refine ⟨⟨?_, ?_, hst.wrote hw2 (fun k hk e => h.o2 (by rw [hk, e])), o1, h.o2, o3, by omega, by omega, hb2, ?_, by rw [List.length_append, List.length_singleton]; omega⟩, ⟨hw2.os.trans hw.os, hw2.tape.trans hw.tape, hw2.output.trans hw.output, Nat.le_trans hw.size hw2.size, fun k hk hn => (hw2.block k (Nat.lt_of_lt_of_le hk hw.size) (fun e => hn (Or.inl e))).trans (hw.block k hk (fun e => hn (Or.inr (Or.inl e)))), fun k hk => ?_⟩, ?_⟩
  · rw [heap_setCell_same _ p 1 _ _ _ (heap_setCell_same _ p 0 _ _ _ (hd.trans h.head))]; rfl
  · rw [List.length_append, List.length_singleton, jcells_app]
    exact hg.wrote hw2 (fun k hk e => o1 (by rw [hk, e]))
  · rw [show t - (fr + min (t - fr) 8) = t - fr - min (t - fr) 8 by omega]; exact e2
  · rcases hk with hk | hk | hk
    · exact Or.inl (Or.inl hk)
    · exact (hw.home k hk).elim (fun h2 => Or.inl (Or.inr (Or.inl h2))) Or.inr
    · exact Or.inl (Or.inr (Or.inr hk))
  · unfold vw
    simp only [gj, List.append_assoc, List.cons_append, List.nil_append]
/-- q jobs are laid, of those that there were. -/
def LayP (w : World) (p : Nat) (lv sv : Value) (fr t : Int) (c : Nat) (S : List Int) (q : Nat) (w' : World) : Prop := ∃ lv' J' fr' c', Wrote (home p lv sv) w (home p lv' sv) w' ∧ IsRo w' p lv' sv J' fr' t c' S ∧ vw J' fr' t c' S = vw [] fr t c S ∧ J'.length = q ∧ c' + J'.length = c
set_option maxRecDepth 100000 in
set_option maxHeartbeats 2000000 in
theorem lay_any (h : IsRo w p lv sv [] fr t c S) : Calls Try.prog 76 #[.pointer (some ⟨p, 0, none⟩)] w fun e w' => e = .returned (.tuple #[]) ∧ LayP w p lv sv fr t c S (min c 4) w' := by
  obtain ⟨c0, c1, c2, c3, f0, f1, f3⟩ := h.cs
  have cj := fun w => jobs_any (t - fr) (by have := h.b1; omega) (by have := h.b0; have := h.b2; omega) w
  have b0 := h.b0
  have b1 := h.b1
  have b2 := h.b2
  rw [h.bc] at cj
  have hcb := cnt_bd (n := t - fr) (by omega) (by omega)
  rw [h.bc] at hcb
  have q1 : IntKind.i64.wrap (t - fr) = t - fr := IntWalk.i64_in _ ⟨by omega, by omega⟩
  obtain ⟨m, hm⟩ : ∃ m, min c 4 = m := ⟨_, rfl⟩
  have r1 := @run_min2 Try.prog (c : Int) 4 (m : Int) (by omega)
  rw [hm]
  have hmc : m ≤ c := by omega
  have hm4 : m ≤ 4 := by omega
  replace hmc := Lib.hid hmc
  have hdr : Hid (∀ nq, LayP w p lv sv fr t c S 0 (w.drewN nq)) := fun nq => ⟨lv, [], fr, c, ⟨rfl, rfl, rfl, Nat.le_refl _, fun _ _ _ => rfl, fun _ hk => Or.inl hk⟩, h.below (below_drewN (Below.refl _ _) nq), rfl, rfl, rfl⟩
  clear h hm
  go_enter Try.func76, Try.ntmps76
  go_wp2_with fail
  go_quiet ((go_at_call 78; exact quiet_ans0 (fun W => ans_of_same (cj W))))
  have hdr := hdr.out nq
  replace hdr := Lib.hid hdr
  generalize w.drewN nq = w1 at *
  clear c0 c1 c2 c3 f0 f1 f3 cj q1 r1
  go_wp2_with fail
  go_loopw [14] (fun i wr => ∃ q : Nat, i = .int .i64 q ∧ q ≤ m ∧ Hid (LayP w p lv sv fr t c S q wr)) (fun i _ => (m - (RowKit.intOf i).toNat))
  case atStart => exact ⟨0, rfl, by omega, hdr⟩
  case round =>
    obtain ⟨q, rfl, q1, hI⟩ := hrel
    clear hdr
    by_cases hq : q < m
    · have i2 : (q : Int) < (m : Int) := by omega
      obtain ⟨lv2, J2, fr2, c2, hw2, hR, hv, hJ, hcc⟩ := hI
      obtain ⟨c3, rfl⟩ : ∃ c3, c2 = c3 + 1 := ⟨c2 - 1, by have := hmc.out; omega⟩
      obtain ⟨s2, k2, e2⟩ := hR.laid.slice
      subst e2
      obtain ⟨c0, c1, c2, c3', f0, f1, f3⟩ := hR.cs
      have d0 := hR.b0
      have d1 := hR.b1
      have d2 := hR.b2
      obtain ⟨mm, hmm⟩ : ∃ x, min (t - fr2) 8 = x := ⟨_, rfl⟩
      have r1 := @run_min2 Try.prog _ _ _ hmm
      obtain ⟨x, hx⟩ : ∃ x, fr2 + mm = x := ⟨_, rfl⟩
      have q2 : IntKind.i64.wrap (t - fr2) = t - fr2 := IntWalk.i64_in _ ⟨by omega, by omega⟩
      have q3 : IntKind.i64.wrap (fr2 + mm) = x := by rw [hx]; exact IntWalk.i64_in _ ⟨by omega, by omega⟩
      have hb0 : Below wr.heap.size wr wr := Below.refl _ _
      replace hR := Lib.hid hR
      replace hw2 := Lib.hid hw2
      replace hv := Lib.hid hv
      have hx2 := Lib.hid (And.intro hmm hx)
      clear hmm hx
      go_wp2_with fail
      go_region_held3 (fun W' => W'.cell? ⟨p, 1, none⟩ = some (.int .i64 fr2) ∧ W'.cell? ⟨p, 2, none⟩ = some (.int .i64 t)) (first | exact ⟨c1, c2⟩ | go_keep) (fail)
      all_goals
        have hbA : Below wr.heap.size wr (wr.alloc (.cells #[.int .i64 (-1), .int .i64 fr2, .int .i64 x] 32)).drew := (below_alloc (Below.refl _ _) _).drew
        have hbox : (wr.alloc (.cells #[.int .i64 (-1), .int .i64 fr2, .int .i64 x] 32)).drew.heap[wr.heap.size]? = some (.cells #[.int .i64 (-1), .int .i64 fr2, .int .i64 x] 32 (0, 0)) := heap_alloc_new _ _
        have hR2 := hR.out.below hbA
        have hwA : Wrote (home p lv sv) w (home p (.slice s2 J2.length k2) sv) (wr.alloc (.cells #[.int .i64 (-1), .int .i64 fr2, .int .i64 x] 32)).drew := hw2.out.trans ⟨hbA.os, hbA.tape, hbA.output, hbA.size, fun k hk _ => hbA.block k hk, fun k hk => Or.inl hk⟩
        have hop : wr.heap.size ≠ p := by have := block_lt hR.out.head; omega
        have hol : ∀ k, (Value.slice s2 J2.length k2).ownBlock = some k → k ≠ wr.heap.size := fun k hk => by have := hR.out.laid.lt hk; omega
        generalize (wr.alloc (.cells #[.int .i64 (-1), .int .i64 fr2, .int .i64 x] 32)).drew = w2 at *
        generalize wr.heap.size = o at *
        clear hR hw2 hbA hb0 c0 c1 c2 c3' f0 f1 f3
        obtain ⟨c0, c1, c2, c3', f0, f1, f3⟩ := hR2.cs
        have o0 := cell_of hbox (j := 0) rfl
        have o1 := cell_of hbox (j := 1) rfl
        have o2 := cell_of hbox (j := 2) rfl
        have hbB : Below w2.heap.size w2 (w2.alloc (.cells #[.int .i64 (-1), .int .i64 fr2, .int .i64 x] 32)).drew := (below_alloc (Below.refl _ _) _).drew
        have hsrc : Hid (Src Try.prog 3 27 (.slice (some ⟨w2.heap.size, 0, none⟩) 1 1) 1 (jcells [(-1, fr2, x)]) (w2.alloc (.cells #[.int .i64 (-1), .int .i64 fr2, .int .i64 x] 32)).drew) := src_new (s := 3) (A := #[.int .i64 (-1), .int .i64 fr2, .int .i64 x]) Try.underlying27 rfl (by simp [Value.oneCell']) (heap_alloc_new _ _)
        have hR3 := hR2.below hbB
        have hG : Hid (GRow 3 (w2.alloc (.cells #[.int .i64 (-1), .int .i64 fr2, .int .i64 x] 32)).drew (.slice s2 q k2) q (jcells J2)) := by have := hR3.laid; rw [hJ] at this; exact this
        have hbox3 := (hbB.block _ (block_lt hbox)).trans hbox
        have key : Hid (∀ v3 w3, GRow 3 w3 v3 (q + 1) (jcells J2 ++ jcells [(-1, fr2, x)]) → Wrote (fun k => (Value.slice s2 q k2).ownBlock = some k) (w2.alloc (.cells #[.int .i64 (-1), .int .i64 fr2, .int .i64 x] 32)).drew (fun k => v3.ownBlock = some k) w3 →
            (∃ s c, v3 = .slice s (q + 1) c) ∧ w3.cell? ⟨p, 0, none⟩ = some (.slice s2 q k2) ∧ w3.frozen? ⟨p, 0, none⟩ = false ∧ w3.cell? ⟨p, 1, none⟩ = some (.int .i64 fr2) ∧ w3.frozen? ⟨p, 1, none⟩ = false ∧ w3.cell? ⟨o, 2, none⟩ = some (.int .i64 x) ∧
            Hid (LayP w p lv sv fr t c S (q + 1) ((w3.setCell ⟨p, 0, none⟩ v3).setCell ⟨p, 1, none⟩ (.int .i64 x)))) := Lib.hid fun v3 w3 g1 g2 => by
          have hd := (g2.block p (block_lt hR3.head) (by rw [← hJ]; exact hR3.o1)).trans hR3.head
          have hx3 := (g2.block o (block_lt hbox3) (fun e => hol o (by rw [hJ]; exact e) rfl)).trans hbox3
          obtain ⟨s3, c3, e3⟩ := g1.slice
          rw [hJ] at hd
          refine ⟨⟨s3, c3, e3⟩, cell_of hd rfl, frozen_of_row w3 p 0 _ _ hd, cell_of hd rfl, frozen_of_row w3 p 1 _ _ hd, cell_of hx3 rfl, ?_⟩
          obtain ⟨e1, e2⟩ := hx2.out
          have hl := hR3.laying (w1 := w3) (lv1 := v3) (by have := hmc.out; omega) (by rw [hJ, e1, e2]; exact g1) (by rw [hJ]; exact g2) (W := (w3.setCell ⟨p, 0, none⟩ v3).setCell ⟨p, 1, none⟩ (.int .i64 x)) (by rw [e1, e2])
          rw [e1, e2] at hl
          obtain ⟨l1, l2, l3⟩ := hl
          have hwB : Wrote (home p (.slice s2 J2.length k2) sv) w2 (home p (.slice s2 J2.length k2) sv) (w2.alloc (.cells #[.int .i64 (-1), .int .i64 fr2, .int .i64 x] 32)).drew := ⟨hbB.os, hbB.tape, hbB.output, hbB.size, fun k hk _ => hbB.block k hk, fun k hk => Or.inl hk⟩
          exact ⟨v3, _, _, _, (hwA.trans hwB).trans l2, l1, l3.trans hv.out, by rw [List.length_append, List.length_singleton, hJ], by rw [List.length_append, List.length_singleton]; omega⟩
        have hbd : q + 1 ≤ 1000000 := by omega
        have hpl := block_lt hR2.head
        have hol2 := block_lt hbox
        clear hR3 hR2 hbox3 hbox hbB hwA
        go_wp2_with fail
        go_region_law (refine step_append_g rfl (.tmp 40) (.tmp 42) rfl rfl eltJ hG.out rfl rfl hsrc.out hbd ?_; intro v3 w3 g1 g2; have hk := key.out v3 w3 g1 g2; obtain ⟨⟨s3, c3, rfl⟩, f4, f5, f6, f7, f8, hfin⟩ := hk; clear key g1 g2 hG hsrc)
        all_goals
          clear c0 c1 c2 c3' f0 f1 f3 o0 o1 o2
          have hpo : p ≠ o := fun e => hop e.symm
          go_wp2_with fail
          go_roundw
          case rel => exact ⟨q + 1, by go_num, by omega, hfin⟩
          case measure => simp [RowKit.intOf]; omega
    · obtain rfl : q = m := by omega
      have i2 : ¬ ((q : Int) < (q : Int)) := by omega
      go_wp2_with fail
      go_end0
      exact ⟨rfl, hI.out⟩
end Ro
end Go.Proofs.Ytkpmifkdnndccaa
