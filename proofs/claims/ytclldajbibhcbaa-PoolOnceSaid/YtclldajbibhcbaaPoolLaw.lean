/- A pool that a statement made, its calls one behind the other; what some Puts, a Flush and Gets make of it; the statements' own question. -/
import Derived.Test.YtclldajbibhcbaaPoolMake
namespace Go.Proofs.Ytclldajbibhcbaa
open Go.RowKit Go.Lib Fx Ho Qu Bu Gr
set_option linter.unusedVariables false
namespace Po
variable {w0 w w' W W' : World} {p B ps n i j : Nat} {s : St} {K : Home} {x : Int}
/-- A pool that was made since w0. -/
structure Ps (w0 W : World) (p B ps : Nat) (s : St) : Prop where
  i : Is (newK w0) W p B ps s
  b : Below w0.heap.size w0 W
theorem did_ps {r : Value} {e : Ending} (d : Did r (newK w0) W p B ps s e W') (h : Below w0.heap.size w0 W) : e = .returned r ∧ Ps w0 W' p B ps s := ⟨d.1, d.2.1, d.2.2.below (fun k hk => hk) h⟩
theorem Ps.below (h : Ps w0 W p B ps s) (hb : Below W.heap.size W W') : Ps w0 W' p B ps s := ⟨h.i.below hb, h.b.trans (hb.mono h.b.size)⟩
theorem Ps.draws (h : Ps w0 W p B ps s) (n : Nat) : Ps w0 (W.drewN n) p B ps s := h.below (below_drewN (Below.refl _ _) n)
theorem ps_new (hx : x = (ps : Int)) (h1 : 1 ≤ ps) (h2 : ps ≤ 64) (w : World) : Calls Try.prog 55 #[.int .i64 x] w fun e W => ∃ p B, e = .returned (.tuple #[.pointer (some ⟨p, 0, none⟩), .int .i64 0]) ∧ Ps w W p B ps st0 := by
  subst hx; exact (new_any h1 h2 w).mono fun _ _ ⟨p, B, he, hi, hb⟩ => ⟨p, B, he, hi, hb⟩
theorem ps_put (h : Ps w0 W p B ps s) (hx : x = (i : Int)) (hi : i < ps) (hps : ps ≤ 64) (hF : s.F.length ≤ 90000) (hE : s.e ≤ 90000) {g : Int} (hg : g ≠ 0) : Calls Try.prog 56 #[.pointer (some ⟨p, 0, none⟩), .int .i64 x, .int .i64 g] W fun e W' => e = .returned (.int .i64 0) ∧ Ps w0 W' p B ps (sPut s i g) := by
  subst hx; exact (put_any h.i hi hps hF hE hg).mono fun _ _ d => did_ps d h.b
theorem ps_zero (h : Ps w0 W p B ps s) (hx : x = (i : Int)) (hi : i < ps) (hps : ps ≤ 64) : Calls Try.prog 56 #[.pointer (some ⟨p, 0, none⟩), .int .i64 x, .int .i64 0] W (Still (.int .i64 1) W) := by
  subst hx; exact put_zero h.i hi hps
theorem ps_get (h : Ps w0 W p B ps s) (hx : x = (i : Int)) (hi : i < ps) (hps : ps ≤ 64) (hF : s.F.length ≤ 90000) (hE : s.e ≤ 90000) {v : Int} {b : Bool} (ha : sAns s i = (v, b)) : Calls Try.prog 59 #[.pointer (some ⟨p, 0, none⟩), .int .i64 x] W fun e W' => e = .returned (.tuple #[.int .i64 v, .bool b]) ∧ Ps w0 W' p B ps (sGet s i) := by
  subst hx
  refine (get_any h.i hi hps hF hE).mono fun _ _ d => ?_
  rw [ha] at d
  exact did_ps d h.b
theorem ps_give (h : Ps w0 W p B ps s) (hx : x = (i : Int)) (hi : i < ps) (hps : ps ≤ 64) (hF : s.F.length ≤ 90000) (hE : s.e ≤ 90000) : Calls Try.prog 65 #[.pointer (some ⟨p, 0, none⟩), .int .i64 x] W fun e W' => e = .returned (.bool (sGave s i)) ∧ Ps w0 W' p B ps (sGive s i) := by
  subst hx; exact (give_any h.i hi hps hF hE).mono fun _ _ d => did_ps d h.b
theorem ps_flush (h : Ps w0 W p B ps s) (hx : x = (i : Int)) (hi : i < ps) (hps : ps ≤ 64) (hF : s.F.length ≤ 90000) (hE : s.e ≤ 90000) : Calls Try.prog 61 #[.pointer (some ⟨p, 0, none⟩), .int .i64 x] W fun e W' => e = .returned (.tuple #[]) ∧ Ps w0 W' p B ps (sFlush s i) := by
  subst hx; exact (flush_any h.i hi hps hF hE).mono fun _ _ d => did_ps d h.b
theorem ps_reset (h : Ps w0 W p B ps s) (hx : x = (i : Int)) (hi : i < ps) (hps : ps ≤ 64) : Calls Try.prog 58 #[.pointer (some ⟨p, 0, none⟩), .int .i64 x] W fun e W' => e = .returned (.tuple #[]) ∧ Ps w0 W' p B ps (sFl s i false) := by
  subst hx; exact (reset_any h.i hi hps).mono fun _ _ d => did_ps d h.b
theorem ps_flushed (h : Ps w0 W p B ps s) (hx : x = (i : Int)) (hi : i < ps) (hps : ps ≤ 64) {b : Bool} (hb : s.fl i = b) : Calls Try.prog 57 #[.pointer (some ⟨p, 0, none⟩), .int .i64 x] W (Still (.bool b) W) := by
  subst hx hb; exact flushed_any h.i hi hps
theorem ps_local (h : Ps w0 W p B ps s) (hx : x = (i : Int)) (hi : i < ps) (hps : ps ≤ 64) {y : Int} (hy : y = ((s.o i).length + (s.t i).length : Nat)) : Calls Try.prog 60 #[.pointer (some ⟨p, 0, none⟩), .int .i64 x] W fun e W' => e = .returned (.int .i64 y) ∧ Ps w0 W' p B ps s := by
  subst hx hy; exact (local_any h.i hi hps).mono fun _ _ ⟨he, n, hw⟩ => ⟨he, by rw [hw]; exact h.draws n⟩
theorem ps_len (h : Ps w0 W p B ps s) (hps : ps ≤ 64) (hF : s.F.length ≤ 90000) {y : Int} (hy : y = (tot List.length ps s : Nat)) : Calls Try.prog 64 #[.pointer (some ⟨p, 0, none⟩)] W fun e W' => e = .returned (.int .i64 y) ∧ Ps w0 W' p B ps s := by
  subst hy; exact (len_any h.i hps hF).mono fun _ _ ⟨he, n, hw⟩ => ⟨he, by rw [hw]; exact h.draws n⟩
theorem ps_lists (h : Ps w0 W p B ps s) {y z : Int} (hy : y = (s.F.length : Nat)) (hz : z = (s.e : Nat)) : Calls Try.prog 63 #[.pointer (some ⟨p, 0, none⟩)] W fun e W' => e = .returned (.tuple #[.int .i64 y, .int .i64 z]) ∧ Ps w0 W' p B ps s := by
  subst hy hz; exact (lists_any h.i).mono fun _ _ ⟨he, n, hw⟩ => ⟨he, by rw [hw]; exact h.draws n⟩
/-- Behind so many Puts of the first of two. -/
structure Shape (m : Nat) (s : St) : Prop where
  sum : s.F.length * 32 + (s.t 0).length + (s.o 0).length = m
  o32 : (s.o 0).length ≤ 32
  t32 : (s.t 0).length = 0 ∨ (s.t 0).length = 32
  o0 : 0 < m → 0 < (s.o 0).length
  t0 : (s.t 0).length = 0 → s.F.length = 0
  fl0 : s.fl 0 = decide (0 < s.F.length)
  fl1 : s.fl 1 = false
  o1 : s.o 1 = []
  t1 : s.t 1 = []
  e0 : s.e = 0
  good : Good 2 s
theorem shape0 : Shape 0 st0 := ⟨rfl, by decide, Or.inl rfl, by omega, fun _ => rfl, rfl, rfl, rfl, rfl, rfl, good0⟩
theorem shape_put {m : Nat} (h : Shape m s) (v : Int) : Shape (m + 1) (sPut s 0 v) := by
  have hg := good_put (i := 0) h.good v
  have hs := h.sum
  have e10 : (1 : Nat) ≠ 0 := by decide
  unfold sPut sPut1 at hg ⊢
  by_cases h1 : (s.o 0).length = 32
  · simp only [if_pos h1] at hg ⊢
    unfold sPut2 at hg ⊢
    have e1 : (sTurn s 0).o 0 = s.t 0 := by simp [sTurn, up_same]
    by_cases h2 : (s.t 0).length = 32
    · have h3 : ((sTurn s 0).o 0).length = 32 := by rw [e1]; exact h2
      simp only [if_pos h3] at hg ⊢
      have ht : (sSet (sCh0 (sTurn s 0) 0) 0 ((sCh0 (sTurn s 0) 0).o 0 ++ [v])).t 0 = s.o 0 := by simp [sSet, sCh0, sTurn, up_same]
      have ho : (sSet (sCh0 (sTurn s 0) 0) 0 ((sCh0 (sTurn s 0) 0).o 0 ++ [v])).o 0 = [v] := by simp [sSet, sCh0, up_same]
      have hF : (sSet (sCh0 (sTurn s 0) 0) 0 ((sCh0 (sTurn s 0) 0).o 0 ++ [v])).F.length = s.F.length + 1 := by simp [sSet, sCh0, sTurn]
      refine ⟨by rw [ht, ho, hF]; simp; omega, by rw [ho]; simp, by rw [ht]; exact Or.inr h1, fun _ => by rw [ho]; simp, fun h => by rw [ht] at h; omega, ?_, ?_, ?_, ?_, ?_, hg⟩
      · rw [hF, decide_eq_true (by omega)]; simp [sSet, sCh0, up_same]
      · simp [sSet, sCh0, sTurn, up_ne, h.fl1]
      · simp [sSet, sCh0, sTurn, up_ne, h.o1]
      · simp [sSet, sCh0, sTurn, up_ne, h.t1]
      · simp [sSet, sCh0, sTurn, h.e0]
    · have h3 : ¬ ((sTurn s 0).o 0).length = 32 := by rw [e1]; exact h2
      simp only [if_neg h3] at hg ⊢
      have ht0 : (s.t 0).length = 0 := by rcases h.t32 with h | h; exact h; exact absurd h h2
      have hF0 := h.t0 ht0
      have ht : (sSet (sTurn s 0) 0 ((sTurn s 0).o 0 ++ [v])).t 0 = s.o 0 := by simp [sSet, sTurn, up_same]
      have ho : ((sSet (sTurn s 0) 0 ((sTurn s 0).o 0 ++ [v])).o 0).length = 1 := by simp [sSet, sTurn, up_same]; simpa using ht0
      have hF : (sSet (sTurn s 0) 0 ((sTurn s 0).o 0 ++ [v])).F = s.F := rfl
      refine ⟨by rw [ht, ho, hF]; omega, by omega, by rw [ht]; exact Or.inr h1, fun _ => by omega, fun h => by rw [ht] at h; omega, h.fl0, h.fl1, ?_, ?_, h.e0, hg⟩
      · simp [sSet, sTurn, up_ne, h.o1]
      · simp [sSet, sTurn, up_ne, h.t1]
  · simp only [if_neg h1] at hg ⊢
    unfold sPut2 at hg ⊢
    simp only [if_neg h1] at hg ⊢
    have ho : ((sSet s 0 (s.o 0 ++ [v])).o 0).length = (s.o 0).length + 1 := by simp [sSet, up_same]
    have h32 := h.o32
    refine ⟨by rw [ho]; show s.F.length * 32 + (s.t 0).length + _ = _; omega, by omega, h.t32, fun _ => by omega, h.t0, h.fl0, h.fl1, ?_, h.t1, h.e0, hg⟩
    simp [sSet, up_ne, h.o1]
theorem get_fl (s : St) (i : Nat) : (sGet s i).fl = s.fl := by
  unfold sGet sGet3 sGet2 sGet1
  split <;> split <;> rfl
theorem get_other (s : St) {i j : Nat} (h : j ≠ i) : (sGet s i).o j = s.o j ∧ (sGet s i).t j = s.t j := by
  unfold sGet sGet3 sGet2 sGet1
  split <;> split <;> simp [sSet, sTake, sTurn, up_ne _ _ h]
theorem get_Fe (s : St) (i : Nat) : (sGet s i).F.length + (sGet s i).e = s.F.length + s.e := by
  have h1 : (sGet1 s i).F.length + (sGet1 s i).e = s.F.length + s.e := by unfold sGet1; split <;> rfl
  have h2 : (sGet2 (sGet1 s i) i).F.length + (sGet2 (sGet1 s i) i).e = s.F.length + s.e := by
    unfold sGet2
    split
    · rename_i h
      have h3 : (sTake (sGet1 s i) i).F.length = (sGet1 s i).F.length - 1 := by simp [sTake]
      have h4 : (sTake (sGet1 s i) i).e = (sGet1 s i).e + 1 := rfl
      rw [h3, h4]; omega
    · exact h1
  exact h2
theorem flush_empty (s : St) (i : Nat) : (sFlush s i).o i = [] ∧ (sFlush s i).t i = [] := by
  unfold sFlush sFl2 sFl1
  by_cases h1 : 0 < (s.o i).length
  · simp only [if_pos h1]
    by_cases h2 : 0 < ((sCh0 s i).t i).length
    · simp only [if_pos h2]; exact ⟨by simp [sCh1, sCh0, up_same], by simp [sCh1, sCh0, up_same]⟩
    · simp only [if_neg h2]; exact ⟨by simp [sCh0, up_same], List.eq_nil_of_length_eq_zero (by omega)⟩
  · simp only [if_neg h1]
    by_cases h2 : 0 < (s.t i).length
    · simp only [if_pos h2]; exact ⟨List.eq_nil_of_length_eq_zero (by show (s.o i).length = 0; omega), by simp [sCh1, up_same]⟩
    · simp only [if_neg h2]; exact ⟨List.eq_nil_of_length_eq_zero (by omega), List.eq_nil_of_length_eq_zero (by omega)⟩
theorem flush_other (s : St) {i j : Nat} (h : j ≠ i) : (sFlush s i).o j = s.o j ∧ (sFlush s i).t j = s.t j := by
  unfold sFlush sFl2 sFl1
  split <;> split <;> simp [sCh0, sCh1, up_ne _ _ h]
theorem flush_F (s : St) (i : Nat) : (sFlush s i).F.length = s.F.length + (if 0 < (s.o i).length then 1 else 0) + (if 0 < (s.t i).length then 1 else 0) ∧ ((sFlush s i).e ≤ s.e) := by
  unfold sFlush sFl2 sFl1
  by_cases h1 : 0 < (s.o i).length
  · simp only [if_pos h1]
    by_cases h2 : 0 < (s.t i).length
    · have h3 : 0 < ((sCh0 s i).t i).length := h2
      simp only [if_pos h2, if_pos h3]
      constructor
      · simp [sCh0, sCh1]
      · show s.e - 1 - 1 ≤ s.e; omega
    · have h3 : ¬ 0 < ((sCh0 s i).t i).length := h2
      simp only [if_neg h2, if_neg h3]
      constructor
      · simp [sCh0]
      · show s.e - 1 ≤ s.e; omega
  · simp only [if_neg h1]
    by_cases h2 : 0 < (s.t i).length
    · simp only [if_pos h2]
      constructor
      · simp [sCh1]
      · show s.e - 1 ≤ s.e; omega
    · simp only [if_neg h2]
      exact ⟨by omega, Nat.le_refl _⟩
theorem flush_fl (s : St) (i : Nat) : (sFlush s i).fl i = (s.fl i || decide (0 < (s.o i).length + (s.t i).length)) := by
  unfold sFlush sFl2 sFl1
  by_cases h1 : 0 < (s.o i).length
  · simp only [if_pos h1]
    rw [decide_eq_true (show 0 < (s.o i).length + (s.t i).length by omega), Bool.or_true]
    split
    · simp [sCh1, up_same]
    · simp [sCh0, up_same]
  · simp only [if_neg h1]
    by_cases h2 : 0 < (s.t i).length
    · simp only [if_pos h2]
      rw [decide_eq_true (show 0 < (s.o i).length + (s.t i).length by omega), Bool.or_true]
      simp [sCh1, up_same]
    · simp only [if_neg h2]
      rw [decide_eq_false (show ¬ 0 < (s.o i).length + (s.t i).length by omega), Bool.or_false]
/-- Nothing in all: none is full. -/
theorem none_full (h : Good ps s) (h0 : tot List.length ps s = 0) : s.F.length = 0 := by
  have h1 : (s.F.map List.length).sum = 0 := by unfold tot at h0; omega
  cases hF : s.F with
  | nil => rfl
  | cons L T =>
    rw [hF] at h1
    simp at h1
    exact absurd h1.1 (h.f L (by rw [hF]; simp))
set_option maxRecDepth 100000 in
set_option maxHeartbeats 2000000 in
theorem told_any (w : World) : Calls Try.prog 62 #[] w fun e w' => e = .returned (.bool true) ∧ Below w.heap.size w w' := by
  have cn := ps_new (x := 2) (ps := 2) rfl (by decide) (by decide) w
  go_enter Try.func62, Try.ntmps62
  go_wp2_with fail
  with_reducible refine Calls.mono (cn) ?_
  rintro e w1 ⟨p, B, rfl, h1⟩
  clear cn
  go_wp2_with fail
  with_reducible refine Calls.mono (new_no w1) ?_
  rintro e w' ⟨rfl, rfl⟩
  have c2 := ps_put (x := 0) (i := 0) (g := 5) h1 rfl (by decide) (by decide) (by decide) (by decide) (by decide)
  clear h1
  go_wp2_with fail
  with_reducible refine Calls.mono (c2) ?_
  rintro e w2 ⟨rfl, h2⟩
  have c3 := ps_get (x := 1) (i := 1) (v := 0) (b := false) h2 rfl (by decide) (by decide) (by decide) (by decide) rfl
  clear h2 c2
  go_wp2_with fail
  with_reducible refine Calls.mono (c3) ?_
  rintro e w3 ⟨rfl, h3⟩
  have c4 := ps_flush (x := 0) (i := 0) h3 rfl (by decide) (by decide) (by decide) (by decide)
  clear h3 c3
  go_wp2_with fail
  with_reducible refine Calls.mono (c4) ?_
  rintro e w4 ⟨rfl, h4⟩
  have c5 := ps_get (x := 1) (i := 1) (v := 5) (b := true) h4 rfl (by decide) (by decide) (by decide) (by decide) rfl
  clear h4 c4
  go_wp2_with fail
  with_reducible refine Calls.mono (c5) ?_
  rintro e w5 ⟨rfl, h5⟩
  have c6 := ps_flushed (x := 0) (i := 0) (b := true) h5 rfl (by decide) (by decide) rfl
  have c7 := ps_flushed (x := 1) (i := 1) (b := false) h5 rfl (by decide) (by decide) rfl
  have c8 := ps_len (y := 0) h5 (by decide) (by decide) rfl
  clear h5 c5
  go_wp2_with fail
  with_reducible refine Calls.mono (c6) ?_
  rintro e w' ⟨rfl, rfl⟩
  go_wp2_with fail
  with_reducible refine Calls.mono (c7) ?_
  rintro e w' ⟨rfl, rfl⟩
  go_wp2_with fail
  with_reducible refine Calls.mono (c8) ?_
  rintro e w6 ⟨rfl, h6⟩
  have c9 := ps_zero (x := 0) (i := 0) h6 rfl (by decide) (by decide)
  have hb := Lib.hid h6.b
  clear h6 c6 c7 c8
  go_wp2_with fail
  with_reducible refine Calls.mono (c9) ?_
  rintro e w' ⟨rfl, rfl⟩
  clear c9
  go_wp2_with fail
  go_ret
  exact ⟨rfl, hb.out⟩
end Po
end Go.Proofs.Ytclldajbibhcbaa
