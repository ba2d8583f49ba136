/- treadmilllaw13.told: a few sleepers. -/
import Derived.Test.YtinlbenifmcgaaaTimerDue
namespace Go.Proofs.Ytinlbenifmcgaaa
open Go.RowKit Go.Lib Fx Ho Gr
set_option linter.unusedVariables false
namespace Pt
open Hm
variable {w w' B : World} {p : Nat} {v u : Value} {L C D M ys : List Sl} {n : Nat} {H H' : Home} {x : Sl}
/-- Timers at p hold C, made since B. -/
def Tl (B w : World) (p : Nat) (C : List Sl) (n : Nat) : Prop := ∃ v M, Ti w p v M n ∧ M.Perm C ∧ Low B.heap.size (home2 p v) ∧ Below B.heap.size B w
theorem Tl.bel (h : Tl B w p C n) : Below B.heap.size B w := by
  obtain ⟨v, M, _, _, _, h⟩ := h
  exact h
theorem Tl.below (h : Tl B w p C n) (hb : Below w.heap.size w w') : Tl B w' p C n := by
  obtain ⟨v, M, h1, h2, h3, h4⟩ := h
  exact ⟨v, M, h1.below hb, h2, h3, h4.trans (hb.mono h4.size)⟩
theorem tl_new (w : World) : Calls Try.prog 8 #[] w fun e w' => e = .returned (.pointer (some ⟨w.heap.size, 0, none⟩)) ∧ Tl w w' w.heap.size [] 0 :=
  (new_any w).mono fun e w' ⟨h1, h2, h3⟩ => ⟨h1, _, [], h2, List.Perm.refl _, fun k hk => (by
    rcases hk with rfl | hk
    · exact Nat.le_refl _
    · cases hk), h3⟩
theorem tl_add (h : Tl B w p C n) (hs : C.length < 1000) (hn : n < 1000000) (a g : Int) : Calls Try.prog 9 #[.pointer (some ⟨p, 0, none⟩), .int .i64 a, .int .i64 g] w fun e w' => e = .returned (.tuple #[]) ∧ Tl B w' p (C ++ [(a, g, (n : Int))]) (n + 1) := by
  obtain ⟨v, M, h1, h2, h3, h4⟩ := h
  exact (add_any h1 (by rw [h2.length_eq]; exact hs) hn a g).mono fun e w' ⟨k1, v', M', k2, k3, k4⟩ => ⟨k1, v', M', k2, k3.trans (h2.append_right _), k4.low h3 h4.size, k4.below h3 h4⟩
theorem tl_len (h : Tl B w p C n) : Calls Try.prog 10 #[.pointer (some ⟨p, 0, none⟩)] w (Still (.int .i64 C.length) w) := by
  obtain ⟨v, M, h1, h2, h3, h4⟩ := h
  rw [← h2.length_eq]
  exact tlen_any h1
theorem top_is (ho : Ok Sl.sl0 Sl.ahead 0 M.length M) (hp : M.Perm C) (hx : x ∈ C) (hl : ∀ y ∈ C, y = x ∨ Sl.ahead x y = true) : 0 < M.length ∧ M.getD 0 Sl.sl0 = x := by
  have hm := hp.mem_iff.2 hx
  obtain ⟨c, hc, he⟩ := List.getElem_of_mem hm
  have h0 : 0 < M.length := by omega
  refine ⟨h0, ?_⟩
  have hle := ho.least Sl.ahead_ord c c (Nat.le_refl c) hc
  rw [getD_at hc, he] at hle
  have h2 : M.getD 0 Sl.sl0 ∈ C := hp.mem_iff.1 (by rw [getD_at h0]; exact List.getElem_mem h0)
  rcases hl _ h2 with h3 | h3
  · exact h3
  · rw [hle] at h3
    cases h3
theorem tl_next (h : Tl B w p C n) (x : Sl) (hx : x ∈ C) (hl : ∀ y ∈ C, y = x ∨ Sl.ahead x y = true) : Calls Try.prog 11 #[.pointer (some ⟨p, 0, none⟩)] w (AnsB (.tuple #[.int .i64 x.1, .bool true]) w) := by
  obtain ⟨v, M, h1, h2, h3, h4⟩ := h
  obtain ⟨q1, q2⟩ := top_is h1.ok h2 hx hl
  rw [← q2]
  exact next_any h1 q1
theorem gs_get {D : List Sl} {i : Nat} (h : i < D.length) : (gs D)[i]? = some (.int .i64 ((D.map fun s => s.2.1).getD i 0)) := by
  unfold gs
  rw [List.getElem?_map, List.getElem?_eq_getElem h, List.getD_eq_getElem?_getD, List.getElem?_map, List.getElem?_eq_getElem h]
  rfl
theorem ints_row (h : GRow 1 w v D.length (gs D)) : Ints w (fun k => v.ownBlock = some k) v (D.map fun s => s.2.1) := by
  obtain ⟨ao, b, off, cap, rfl, hle, hm, ha, hc⟩ := h.cell
  unfold maxLen at hm
  refine ⟨ao, cap, by rw [List.length_map], by rw [List.length_map]; omega, fun i hi => ?_⟩
  rw [List.length_map] at hi
  obtain ⟨rfl, hb, _⟩ := ha (by omega)
  exact ⟨b, off, rfl, rfl, hb, (hc i _ (gs_get hi)).1⟩
/-- What Due tells. -/
def Tdue (B : World) (p : Nat) (C : List Sl) (n : Nat) (now : Int) (e : Ending) (w' : World) : Prop := ∃ r D M, e = .returned r ∧ Ints w' (fun k => B.heap.size ≤ k) r (D.map fun s => s.2.1) ∧ Ds C D M ∧ (∀ a ∈ D, a.1 ≤ now) ∧ (∀ b ∈ M, now < b.1) ∧ Tl B w' p M n
theorem Ds.of_perm (h : Ds L D M) (hp : L.Perm C) : Ds C D M := ⟨h.perm.trans hp, h.rise, h.above⟩
theorem tl_due (h : Tl B w p C n) (now : Int) : Calls Try.prog 13 #[.pointer (some ⟨p, 0, none⟩), .int .i64 now] w (Tdue B p C n now) := by
  obtain ⟨v, M, h1, h2, h3, h4⟩ := h
  exact (due_any h1 h3 h4 now).mono fun e w' ⟨r, D, M, v, k1, k2, k3⟩ => ⟨r, D, M, k1, (ints_row k2.row).wider (fun k hk _ => k2.ulow k hk), k2.ds.of_perm h2, k2.le, k3, v, M, k2.ti, List.Perm.refl _, k2.low, k2.below⟩
theorem Ds.part (h : Ds C D M) {now : Int} (h1 : ∀ a ∈ D, a.1 ≤ now) (h2 : ∀ b ∈ M, now < b.1) : D.Perm (C.filter fun s => decide (s.1 ≤ now)) ∧ M.Perm (C.filter fun s => decide (now < s.1)) := by
  have f1 : (D ++ M).filter (fun s => decide (s.1 ≤ now)) = D := by
    rw [List.filter_append, List.filter_eq_self.2 (fun a ha => decide_eq_true (h1 a ha)), List.filter_eq_nil_iff.2 (fun b hb => by have := h2 b hb; simp only [decide_eq_true_eq]; omega), List.append_nil]
  have f2 : (D ++ M).filter (fun s => decide (now < s.1)) = M := by
    rw [List.filter_append, List.filter_eq_self.2 (fun a ha => decide_eq_true (h2 a ha)), List.filter_eq_nil_iff.2 (fun b hb => by have := h1 b hb; simp only [decide_eq_true_eq]; omega), List.nil_append]
  exact ⟨by rw [← f1]; exact h.perm.filter _, by rw [← f2]; exact h.perm.filter _⟩
theorem few (h : Ds [(5, 1, 0), (3, 2, 1), (3, 3, 2)] D M) (h1 : ∀ a ∈ D, a.1 ≤ 4) (h2 : ∀ b ∈ M, 4 < b.1) : D = [(3, 2, 1), (3, 3, 2)] ∧ M = [(5, 1, 0)] := by
  obtain ⟨p1, p2⟩ := h.part h1 h2
  rw [show ([(5, 1, 0), (3, 2, 1), (3, 3, 2)] : List Sl).filter (fun s => decide (s.1 ≤ 4)) = [(3, 2, 1), (3, 3, 2)] by decide] at p1
  rw [show ([(5, 1, 0), (3, 2, 1), (3, 3, 2)] : List Sl).filter (fun s => decide (4 < s.1)) = [(5, 1, 0)] by decide] at p2
  refine ⟨?_, List.perm_singleton.1 p2⟩
  have hr := h.rise
  match D, p1, hr with
  | [], p1, _ => exact absurd p1.length_eq (by decide)
  | [a], p1, _ =>
    have := p1.length_eq
    simp only [List.length_cons, List.length_nil] at this
    omega
  | [a, b], p1, hr =>
    have ha := p1.mem_iff.1 (show a ∈ [a, b] by simp)
    have hb := p1.mem_iff.1 (show b ∈ [a, b] by simp)
    have m1 := p1.mem_iff.2 (show ((3, 2, 1) : Sl) ∈ [(3, 2, 1), (3, 3, 2)] by simp)
    have m2 := p1.mem_iff.2 (show ((3, 3, 2) : Sl) ∈ [(3, 2, 1), (3, 3, 2)] by simp)
    have hq := (List.pairwise_cons.1 hr).1 b (by simp)
    simp only [List.mem_cons, List.not_mem_nil, or_false] at ha hb m1 m2
    rcases ha with rfl | rfl <;> rcases hb with rfl | rfl
    · exact absurd m2 (by decide)
    · rfl
    · exact absurd hq (by decide)
    · exact absurd m1 (by decide)
  | a :: b :: c :: r, p1, _ => 
    have := p1.length_eq
    simp only [List.length_cons, List.length_nil] at this
    omega
theorem ints_lit (w : World) (zs : List Int) (n : Nat) (hn : zs.length = n) (hs : n ≤ 1000) {A : Array Value} (hA : A.toList = cells zs) : Ints (w.alloc (.cells A 3)) (fun k => w.heap.size ≤ k) (.slice (some ⟨w.heap.size, 0, none⟩) n n) zs := by
  have h := World.ownsRow_lit (base := w.heap.size) (e := 3) (size := 1) w A n (Nat.le_refl _) (by unfold maxLen; omega) (by rw [← Array.length_toList, hA, cells_len, hn, Nat.mul_one])
  rw [hA] at h
  exact (ints_of_owns h).wider (fun k hk _ => (h.lt k hk).1)
set_option maxRecDepth 100000 in
set_option maxHeartbeats 2000000 in
theorem told_any (w : World) : Calls Try.prog 14 #[] w (AnsB (.bool true) w) := by
  have cn := tl_new w
  obtain ⟨p, hp⟩ : ∃ p, w.heap.size = p := ⟨_, rfl⟩
  rw [hp] at cn
  clear hp
  go_enter Try.func14, Try.ntmps14
  go_wp2_with fail
  with_reducible refine Calls.mono (cn) ?_
  rintro e w1 ⟨rfl, hs1⟩
  have cs := tl_add hs1 (by decide) (by decide) 5 1
  clear cn hs1
  go_wp2_with fail
  with_reducible refine Calls.mono (cs) ?_
  rintro e w2 ⟨rfl, hs2⟩
  have cs := tl_add hs2 (by decide) (by decide) 3 2
  clear hs2
  go_wp2_with fail
  with_reducible refine Calls.mono (cs) ?_
  rintro e w3 ⟨rfl, hs3⟩
  have cs := tl_add hs3 (by decide) (by decide) 3 3
  clear hs3
  go_wp2_with fail
  with_reducible refine Calls.mono (cs) ?_
  rintro e w4 ⟨rfl, hs4⟩
  have hs4 : Tl w w4 p [(5, 1, 0), (3, 2, 1), (3, 3, 2)] 3 := hs4
  have cs := tl_next hs4 (3, 2, 1) (by decide) (by decide)
  go_wp2_with fail
  with_reducible refine Calls.mono (cs) ?_
  rintro e w5 ⟨rfl, hb5⟩
  have hs5 := hs4.below hb5
  have cs := tl_due hs5 4
  clear hs4 hb5
  go_wp2_with fail
  with_reducible refine Calls.mono (cs) ?_
  rintro e w6 ⟨r, D, M, rfl, hi, hd, hd1, hd2, hs6⟩
  obtain ⟨rfl, rfl⟩ := few hd hd1 hd2
  clear hd hd1 hd2 hs5 cs
  have hi : Ints w6 (fun k => w.heap.size ≤ k) r [2, 3] := hi
  have hA : Below w6.heap.size w6 (w6.alloc (.cells #[.int .i64 2, .int .i64 3] 3)) := below_alloc (Below.refl _ _) _
  have hi7 := hi.below hA
  have hl7 := ints_lit w6 [2, 3] 2 rfl (by omega) (A := #[.int .i64 2, .int .i64 3]) rfl
  have ci := ints_any hi7 hl7
  have hs7 := Lib.hid (hs6.below hA)
  obtain ⟨sp, cap, rfl, _⟩ := hi
  clear hA hi7 hl7 hs6
  go_wp2_with fail
  with_reducible refine Calls.mono (ci) ?_
  rintro e w8 ⟨rfl, j, rfl⟩
  have cl := tl_len (hs7.out.below (below_drewN (Below.refl _ _) j))
  have hfin := Lib.hid (hs7.out.below (below_drewN (Below.refl _ _) j)).bel
  clear ci hs7
  go_wp2_with fail
  with_reducible refine Calls.mono (cl) ?_
  rintro e w9 ⟨rfl, rfl⟩
  go_wp2_with fail
  go_ret
  exact ⟨rfl, hfin.out⟩
end Pt
end Go.Proofs.Ytinlbenifmcgaaa
