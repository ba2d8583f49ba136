/- What the law of pages apart keeps: which pages are handed out, by whom, and the row of those. -/
import Derived.Test.YtbheabjemaaeoabPageMgM
namespace Go.Proofs.Ytbheabjemaaeoab
open Go.RowKit Go.Lib Fx Ho Gr Go.Sort
set_option linter.unusedVariables false
namespace Pg
variable {W0 w w1 w' W : World} {P B R b n c i j k q K a N p t s D : Nat} {v v1 : Value} {L M : List Rn} {H H' : Home} {F G : List Bool} {d : Array Pr2} {A A' : List (Nat × Nat)} {r : Nat × Nat}
def rc (A : List (Nat × Nat)) : List Value := A.flatMap (fun r => [Value.int .i64 r.1, Value.int .i64 r.2])
theorem rc_cons (r : Nat × Nat) (A : List (Nat × Nat)) : rc (r :: A) = Value.int .i64 r.1 :: Value.int .i64 r.2 :: rc A := rfl
theorem rc_len : ∀ A : List (Nat × Nat), (rc A).length = A.length * 2
  | [] => rfl
  | r :: A => by rw [rc_cons, List.length_cons, List.length_cons, rc_len A, List.length_cons]; omega
theorem rc_app (A A' : List (Nat × Nat)) : rc (A ++ A') = rc A ++ rc A' := by unfold rc; exact List.flatMap_append
theorem rc_one : ∀ (A : List (Nat × Nat)), ∀ u ∈ rc A, u.oneCell' = true
  | [], u, h => by cases h
  | r :: A, u, h => by
    rw [rc_cons] at h
    rcases List.mem_cons.1 h with rfl | h
    · rfl
    · rcases List.mem_cons.1 h with rfl | h
      · rfl
      · exact rc_one A u h
theorem rc_get : ∀ (A : List (Nat × Nat)) (i : Nat), i < A.length → (rc A)[i * 2]? = some (.int .i64 (A.getD i (0, 0)).1) ∧ (rc A)[i * 2 + 1]? = some (.int .i64 (A.getD i (0, 0)).2)
  | [], i, h => by cases h
  | r :: A, 0, h => ⟨rfl, rfl⟩
  | r :: A, i + 1, h => by
    rw [rc_cons, show (i + 1) * 2 = i * 2 + 1 + 1 by omega]
    simpa using rc_get A i (by simpa using h)
theorem rc_take : ∀ (k : Nat) (A : List (Nat × Nat)), (rc A).take (k * 2) = rc (A.take k)
  | 0, A => by simp [rc]
  | k + 1, [] => by simp [rc]
  | k + 1, r :: A => by
    rw [rc_cons, show (k + 1) * 2 = k * 2 + 1 + 1 by omega, List.take_succ_cons, List.take_succ_cons, rc_take k A]; rfl
theorem rc_drop : ∀ (k : Nat) (A : List (Nat × Nat)), (rc A).drop (k * 2) = rc (A.drop k)
  | 0, A => by simp
  | k + 1, [] => by simp [rc]
  | k + 1, r :: A => by
    rw [rc_cons, show (k + 1) * 2 = k * 2 + 1 + 1 by omega, List.drop_succ_cons, List.drop_succ_cons, rc_drop k A]; rfl
theorem eltA : Elt Try.prog 29 34 2 16 (.agg #[.int .i64 0, .int .i64 0]) := ⟨Try.underlying29, by kernel_rfl, by rfl, by decide, by decide⟩
/-- Who has which pages. -/
structure Cov (F : List Bool) (A : List (Nat × Nat)) : Prop where
  ap : A.Pairwise (fun r s => r.1 + r.2 ≤ s.1 ∨ s.1 + s.2 ≤ r.1)
  inn : ∀ r, r ∈ A → 1 ≤ r.1 ∧ 1 ≤ r.2 ∧ r.1 + r.2 ≤ 400 ∧ ∀ x, r.1 ≤ x → x < r.1 + r.2 → F.getD x false = false
  cov : ∀ x, 1 ≤ x → x < 400 → F.getD x false = false → ∃ r, r ∈ A ∧ r.1 ≤ x ∧ x < r.1 + r.2
theorem cov_start : Cov (newF 400) [] := ⟨List.Pairwise.nil, fun r h => (by cases h), fun x h1 h2 h3 => by rw [newF_get (by omega), decide_eq_false_iff_not] at h3; omega⟩
theorem cov_more (h : Cov F A) (hl : F.length = 400) (a1 : 1 ≤ a) (k1 : 1 ≤ k) (hk : a + k ≤ 400) (hf : ∀ x, a ≤ x → x < a + k → F.getD x false = true) : Cov (setR F a false k) (A ++ [(a, k)]) := by
  have hs : ∀ x, (setR F a false k).getD x false = if a ≤ x ∧ x < a + k then false else F.getD x false := fun x => setR_get F a false x k (by omega)
  have hap : ∀ r, r ∈ A → r.1 + r.2 ≤ a ∨ a + k ≤ r.1 := fun r hr => by
    obtain ⟨h1, h2, h3, h4⟩ := h.inn r hr
    rcases Nat.lt_or_ge a (r.1 + r.2) with q | q
    · rcases Nat.lt_or_ge r.1 (a + k) with q2 | q2
      · exfalso
        have h5 := h4 (max a r.1) (by omega) (by omega)
        have h6 := hf (max a r.1) (by omega) (by omega)
        rw [h5] at h6; cases h6
      · exact .inr q2
    · exact .inl q
  refine ⟨List.pairwise_append.2 ⟨h.ap, List.pairwise_singleton _ _, fun r hr s hs => ?_⟩, fun r hr => ?_, fun x h1 h2 h3 => ?_⟩
  · obtain rfl := List.mem_singleton.1 hs
    exact hap r hr
  · rcases List.mem_append.1 hr with hr | hr
    · obtain ⟨h1, h2, h3, h4⟩ := h.inn r hr
      refine ⟨h1, h2, h3, fun x e1 e2 => ?_⟩
      rw [hs]
      split
      · rfl
      · exact h4 x e1 e2
    · obtain rfl := List.mem_singleton.1 hr
      exact ⟨a1, k1, hk, fun x e1 e2 => by rw [hs, if_pos ⟨e1, e2⟩]⟩
  · by_cases e : a ≤ x ∧ x < a + k
    · exact ⟨(a, k), List.mem_append_right _ (List.mem_singleton.2 rfl), e.1, e.2⟩
    · rw [hs, if_neg e] at h3
      obtain ⟨r, hr, h4⟩ := h.cov x h1 h2 h3
      exact ⟨r, List.mem_append_left _ hr, h4⟩
theorem Cov.perm (h : Cov F A) (hp : A.Perm A') : Cov F A' := ⟨hp.pairwise h.ap (fun h => h.symm), fun r hr => h.inn r (hp.mem_iff.2 hr), fun x h1 h2 h3 => by
  obtain ⟨r, hr, h4⟩ := h.cov x h1 h2 h3
  exact ⟨r, hp.mem_iff.1 hr, h4⟩⟩
theorem cov_less (h : Cov F (r :: A)) (hl : F.length = 400) : Cov (setR F r.1 true r.2) A := by
  obtain ⟨i1, i2, i3, i4⟩ := h.inn r (List.mem_cons_self ..)
  have hs : ∀ x, (setR F r.1 true r.2).getD x false = if r.1 ≤ x ∧ x < r.1 + r.2 then true else F.getD x false := fun x => setR_get F r.1 true x r.2 (by omega)
  obtain ⟨ap1, ap2⟩ := List.pairwise_cons.1 h.ap
  refine ⟨ap2, fun s hsA => ?_, fun x h1 h2 h3 => ?_⟩
  · obtain ⟨h1, h2, h3, h4⟩ := h.inn s (List.mem_cons_of_mem _ hsA)
    refine ⟨h1, h2, h3, fun x e1 e2 => ?_⟩
    have := ap1 s hsA
    rw [hs, if_neg (by omega)]
    exact h4 x e1 e2
  · rw [hs] at h3
    by_cases e : r.1 ≤ x ∧ x < r.1 + r.2
    · rw [if_pos e] at h3; cases h3
    · rw [if_neg e] at h3
      obtain ⟨s, hsA, h4⟩ := h.cov x h1 h2 h3
      rcases List.mem_cons.1 hsA with rfl | hsA
      · omega
      · exact ⟨s, hsA, h4⟩
theorem cov_end (h : Cov F []) (hl : F.length = 400) (h0 : F.getD 0 false = false) : F = newF 400 := by
  apply List.ext_getElem
  · rw [newF_len, hl]
  · intro x hx hx2
    have e1 : F.getD x false = (newF 400).getD x false := by
      rw [newF_get (by omega)]
      by_cases q : 1 ≤ x
      · rw [decide_eq_true (by omega)]
        cases e : F.getD x false with
        | true => rfl
        | false =>
          obtain ⟨r, hr, _⟩ := h.cov x q (by omega) e
          cases hr
      · rw [show x = 0 by omega, h0]; exact (decide_eq_false (by omega)).symm
    rw [List.getD_eq_getElem?_getD, List.getD_eq_getElem?_getD, List.getElem?_eq_getElem hx, List.getElem?_eq_getElem hx2] at e1
    exact e1
/-- Pages from t on are free: there is a run for k pages, and it begins at t or ahead. -/
theorem tail_run (hl : F.length = 400) (h0 : F.getD 0 false = false) (ht : ∀ x, t ≤ x → x < 400 → F.getD x false = true) (hk : t + k ≤ 400) (k1 : 1 ≤ k) : ∃ b m, IsRun 400 F b m ∧ k ≤ m := by
  obtain ⟨b, m, g, g1, g2⟩ := in_run hl h0 (ht t (Nat.le_refl _) (by omega))
  refine ⟨b, m, g, ?_⟩
  have h1 := g.hi
  have h2 := g.le
  rcases Nat.lt_or_ge (b + m) 400 with q | q
  · rw [ht (b + m) (by omega) q] at h1; cases h1
  · omega
theorem tail_first (ht : ∀ x, t ≤ x → x < 400 → F.getD x false = true) (g : IsRun 400 F a K) : a ≤ t := by
  rcases Nat.lt_or_ge t a with q | q
  · have h1 := g.lo
    have := g.le
    have := g.k1
    rw [ht (a - 1) (by omega) (by omega)] at h1; cases h1
  · exact q
/-- The law's own block, and its row. -/
structure Pa (W0 W : World) (P B c : Nat) (F G : List Bool) (A : List (Nat × Nat)) (v : Value) (H : Home) : Prop where
  ps : Ps W0 W P 400 c F H
  nb : ¬ H B
  nv : ∀ k, v.ownBlock = some k → ¬ H k
  own : W.heap[B]? = some (.cells (bs G) 4 (0, 0))
  gl : G.length = 400
  lo : W0.heap.size ≤ B
  row : GRow 2 W v A.length (rc A)
  vb : ∀ k, v.ownBlock = some k → k ≠ B ∧ W0.heap.size ≤ k
namespace Pa
theorem below (h : Pa W0 W P B c F G A v H) (hb : Below W.heap.size W w') : Pa W0 w' P B c F G A v H :=
  ⟨h.ps.below hb, h.nb, h.nv, (hb.block B (block_lt h.own)).trans h.own, h.gl, h.lo, h.row.below hb, h.vb⟩
theorem at_ (h : Pa W0 W P B c F G A v H) (hx : p < 400) : W.cell? ⟨B, p, none⟩ = some (.bool (G.getD p false)) ∧ W.frozen? ⟨B, p, none⟩ = false :=
  ⟨cell_of h.own (bs_get (by rw [h.gl]; exact hx)), frozen_of_row _ _ _ _ _ h.own⟩
theorem set (h : Pa W0 W P B c F G A v H) (x : Bool) : Pa W0 (W.setCell ⟨B, p, none⟩ (.bool x)) P B c F (G.set p x) A v H := by
  have hw := wr1 W B p (.bool x)
  exact ⟨h.ps.wrote hw (fun k hk e => h.nb (by rw [← show k = B from e]; exact hk)) (fun k e => by rw [show k = B from e]; exact h.lo), h.nb, h.nv, by rw [heap_setCell_same _ B _ _ _ _ h.own, bs_set], by rw [List.length_set]; exact h.gl, h.lo, h.row.wrote hw (fun k hk e => (h.vb k hk).1 e), h.vb⟩
/-- Pages are handed out. -/
theorem alloc (h : Pa W0 W P B c F G A v H) (hc : c ≤ 900) (k1 : 1 ≤ k) (ht : ∀ x, t ≤ x → x < 400 → F.getD x false = true) (hk : t + k ≤ 400) : Calls Try.prog 7 #[.pointer (some ⟨P, 0, none⟩), .int .i64 k] W fun e w' => ∃ a : Nat, e = .returned (.tuple #[.int .i64 a, .int .i64 0]) ∧ 1 ≤ a ∧ a + k ≤ 400 ∧ a ≤ t ∧ Hid (∀ x, a ≤ x → x < a + k → F.getD x false = true) ∧ Hid (∃ H, Pa W0 w' P B (c + 4) (setR F a false k) G A v H) := by
  have hl := h.ps.len
  refine (alloc_any h.ps (by omega) k).mono fun e w' hh => ?_
  rcases hh with ⟨h1, _⟩ | ⟨_, h1, _⟩ | ⟨a, K, q, e1, _, hb, he, H', hw, hs⟩
  · omega
  · obtain ⟨b, m, g, g1⟩ := tail_run hl h.ps.zero ht hk k1
    have := h1 b m g
    omega
  · obtain rfl : k = q := by omega
    have h1 := hb.1.le
    have h2 := hb.2.1
    have hB := hw.home
    have hlt := block_lt h.own
    exact ⟨a, he, hb.1.a1, by omega, tail_first ht hb.1, Lib.hid fun x x1 x2 => hb.1.in_ x x1 (by omega), Lib.hid ⟨H', hs, fun hh => (hB B hh).elim h.nb (fun e => by omega), fun k hk hh => (hB k hh).elim (h.nv k hk) (fun e => by have := h.row.lt hk; omega), (hw.block B hlt h.nb).trans h.own, h.gl, h.lo, h.row.wrote hw h.nv, h.vb⟩⟩
/-- Pages come back; what is aside stays. -/
theorem free (h : Pa W0 W P B c F G A v H) (hc : c ≤ 900) (a1 : 1 ≤ a) (q1 : 1 ≤ q) (hq : a + q ≤ 400) (hf : ∀ x, a ≤ x → x < a + q → F.getD x false = false) : Calls Try.prog 9 #[.pointer (some ⟨P, 0, none⟩), .int .i64 a, .int .i64 q] W fun e w' => e = .returned (.int .i64 0) ∧ ∃ H', Pa W0 w' P B (c + 4) (setR F a true q) G A v H' ∧ Wrote H W H' w' := by
  refine (free_yes h.ps (by omega) a1 q1 hq hf).mono fun e w' ⟨he, H', hw, hs⟩ => ?_
  have hB := hw.home
  have hlt := block_lt h.own
  exact ⟨he, H', ⟨hs, fun hh => (hB B hh).elim h.nb (fun e => by omega), fun k hk hh => (hB k hh).elim (h.nv k hk) (fun e => by have := h.row.lt hk; omega), (hw.block B hlt h.nb).trans h.own, h.gl, h.lo, h.row.wrote hw h.nv, h.vb⟩, hw⟩
theorem again (h : Pa W0 W P B c F G A v H) (hc : c ≤ 900) (a1 : 1 ≤ a) (q1 : 1 ≤ q) (hq : a + q ≤ 400) (hf : ∀ x, a ≤ x → x < a + q → F.getD x false = true) : Calls Try.prog 9 #[.pointer (some ⟨P, 0, none⟩), .int .i64 a, .int .i64 q] W fun e w' => e = .returned (.int .i64 5) ∧ ∃ H', Pa W0 w' P B c F G A v H' ∧ Wrote H W H' w' := by
  refine (free_no h.ps (by omega) a1 q1 hq ⟨a, Nat.le_refl _, by omega, hf a (Nat.le_refl _) (by omega)⟩).mono fun e w' ⟨he, H', hw, hs⟩ => ?_
  have hB := hw.home
  have hlt := block_lt h.own
  exact ⟨he, H', ⟨hs, fun hh => (hB B hh).elim h.nb (fun e => by omega), fun k hk hh => (hB k hh).elim (h.nv k hk) (fun e => by have := h.row.lt hk; omega), (hw.block B hlt h.nb).trans h.own, h.gl, h.lo, h.row.wrote hw h.nv, h.vb⟩, hw⟩
/-- The row is another one: of new blocks, or of the one that it had. -/
theorem lay (h : Pa W0 W P B c F G A v H) (hw : Wrote (fun k => v.ownBlock = some k) W (fun k => v1.ownBlock = some k) w') (hr : GRow 2 w' v1 A'.length (rc A')) : Pa W0 w' P B c F G A' v1 H := by
  have hlt := block_lt h.own
  refine ⟨h.ps.wrote hw (fun k hk e => h.nv k e hk) (fun k e => (h.vb k e).2), h.nb, fun k hk hh => (hw.home k hk).elim (fun e => h.nv k e hh) (fun e => by have := h.ps.lt hh; omega), (hw.block B hlt (fun e => (h.vb B e).1 rfl)).trans h.own, h.gl, h.lo, hr, fun k hk => (hw.home k hk).elim (h.vb k) (fun e => ⟨by omega, by have := h.ps.out.size; omega⟩)⟩
theorem fresh (h : Pa W0 W P B c F G A v H) (hb : Below W.heap.size W w') (hr : GRow 2 w' v1 A'.length (rc A')) (hl : Low W.heap.size (fun k => v1.ownBlock = some k)) : Pa W0 w' P B c F G A' v1 H := by
  have h2 := h.below hb
  have hlt := block_lt h.own
  have hsz := h.ps.out.size
  exact ⟨h2.ps, h2.nb, fun k hk hh => by have := hl k hk; have := h.ps.lt hh; omega, h2.own, h2.gl, h2.lo, hr, fun k hk => by have := hl k hk; omega⟩
theorem less (h : Pa W0 W P B c F G A v H) (hr : GRow 2 W v1 A'.length (rc A')) (ho : ∀ k, v1.ownBlock = some k → v.ownBlock = some k) : Pa W0 W P B c F G A' v1 H :=
  ⟨h.ps, h.nb, fun k hk => h.nv k (ho k hk), h.own, h.gl, h.lo, hr, fun k hk => h.vb k (ho k hk)⟩
theorem src (h : Pa W0 W P B c F G A v H) (hW : Below W.heap.size W w') : Src Try.prog 2 29 v A.length (rc A) w' := by
  have hg := h.row.below hW
  have hlen := hg.len
  obtain ⟨ao, b, off, cap, rfl, hc, hm, hx⟩ := hg
  rcases hx with ⟨rfl, hb⟩ | ⟨rfl, rfl⟩
  · exact Src.ofSlice _ Try.underlying29 ⟨b, off, none⟩ A.length cap (rc A) hlen (fun j u hj => by rw [addr_add]; exact hc.olds j u hj) (rc_one A)
  · have h1 := hc.le
    have h2 : A = [] := List.eq_nil_of_length_eq_zero (by omega)
    subst h2
    exact Src.ofNil _ Try.underlying29 0
/-- Where the i-th of the row lies. -/
theorem one (h : Pa W0 W P B c F G A v H) {i : Nat} (hi : i < A.length) : ∃ b off cap, v = .slice (some ⟨b, off, none⟩) A.length cap ∧ A.length ≤ cap ∧ W.cell? ⟨b, off + i * 2, none⟩ = some (.int .i64 (A.getD i (0, 0)).1) ∧ W.cell? ⟨b, off + (i * 2 + 1), none⟩ = some (.int .i64 (A.getD i (0, 0)).2) := by
  obtain ⟨ao, b, off, cap, rfl, h1, h2, h3, h4⟩ := h.row.cell
  obtain ⟨rfl, _, _⟩ := h3 (by omega)
  obtain ⟨g1, g2⟩ := rc_get A i hi
  exact ⟨b, off, cap, rfl, h1, (h4 _ _ g1).1, (h4 _ _ g2).1⟩
theorem mono (h : Pa W0 W P B c F G A v H) {c' : Nat} (hc : c ≤ c') : Pa W0 W P B c' F G A v H := ⟨h.ps.mono hc, h.nb, h.nv, h.own, h.gl, h.lo, h.row, h.vb⟩
theorem head (h : Pa W0 W P B c F G (r :: A) v H) : ∃ b off cap, v = .slice (some ⟨b, off, none⟩) (A.length + 1) cap ∧ A.length + 1 ≤ cap ∧ W.cell? ⟨b, off, none⟩ = some (.int .i64 r.1) ∧ W.cell? ⟨b, off + 1, none⟩ = some (.int .i64 r.2) := by
  obtain ⟨b, off, cap, e, h1, h2, h3⟩ := h.one (i := 0) (by simp)
  exact ⟨b, off, cap, e, h1, h2, h3⟩
theorem drop1 {b off cap : Nat} {a1 : Option Addr} (h : Pa W0 W P B c F G (r :: A) (.slice (some ⟨b, off, none⟩) (A.length + 1) cap) H) (ha : a1 = some ⟨b, off + 2, none⟩ ∨ cap = 1 ∧ a1 = some ⟨b, off, none⟩) : Pa W0 W P B c F G A (.slice a1 A.length (cap - 1)) H := by
  have hd := h.row.drop (k := 1) (a1 := a1) (by simp) (ha.imp (fun e => by rw [e]; simp [addr_add]) id)
  obtain ⟨hg, ho⟩ := hd
  rw [rc_drop 1 (r :: A)] at hg
  exact h.less hg ho
end Pa
/-- The block of a run that the law took out of its row: aside. -/
structure AsideR (W : World) (R B : Nat) (r : Nat × Nat) (v : Value) (H : Home) : Prop where
  blk : W.heap[R]? = some (.cells #[.int .i64 r.1, .int .i64 r.2] 34 (0, 0))
  nH : ¬ H R
  nB : R ≠ B
  nv : v.ownBlock ≠ some R
theorem AsideR.cells (h : AsideR W R B r v H) : W.cell? ⟨R, 0, none⟩ = some (.int .i64 r.1) ∧ W.cell? ⟨R, 1, none⟩ = some (.int .i64 r.2) := ⟨cell_of h.blk rfl, cell_of h.blk rfl⟩
theorem aside_new {U : World} (h : Pa W0 W P B c F G A v H) (hU : U.heap[W.heap.size]? = some (.cells #[.int .i64 r.1, .int .i64 r.2] 34 (0, 0))) : AsideR U W.heap.size B r v H :=
  ⟨hU, fun hh => by have := h.ps.lt hh; omega, fun e => by have := block_lt h.own; omega, fun e => by have := h.row.lt e; omega⟩
theorem AsideR.freed (h : AsideR W R B r v H) (hw : Wrote H W H' w') : AsideR w' R B r v H' :=
  ⟨(hw.block R (block_lt h.blk) h.nH).trans h.blk, fun hh => (hw.home R hh).elim h.nH (fun e => by have := block_lt h.blk; omega), h.nB, h.nv⟩
theorem AsideR.set (h : AsideR W R B r v H) (x : Value) : AsideR (W.setCell ⟨B, p, none⟩ x) R B r v H :=
  ⟨((wr1 W B p x).block R (block_lt h.blk) h.nB).trans h.blk, h.nH, h.nB, h.nv⟩
/-- The law behind a round. -/
def Rd (F G : List Bool) (A : List (Nat × Nat)) (i : Nat) : Prop := Cov F A ∧ A.length ≤ i ∧ (∀ x, 1 ≤ x → x < 400 → G.getD x false = !F.getD x false) ∧ ∀ x, 1 + 9 * i ≤ x → x < 400 → F.getD x false = true
theorem rd_more (h : Rd F G A i) (hl : F.length = 400) (hg : G.length = 400) (a1 : 1 ≤ a) (k1 : 1 ≤ k) (k9 : k ≤ 9) (hk : a + k ≤ 400) (hat : a ≤ 1 + 9 * i) (hf : ∀ x, a ≤ x → x < a + k → F.getD x false = true) : Rd (setR F a false k) (setR G a true k) (A ++ [(a, k)]) (i + 1) := by
  obtain ⟨h1, h2, h3, h4⟩ := h
  refine ⟨cov_more h1 hl a1 k1 hk hf, by simp; omega, fun x x1 x2 => ?_, fun x x1 x2 => ?_⟩
  · rw [setR_get F a false x k (by omega), setR_get G a true x k (by omega)]
    split
    · rfl
    · exact h3 x x1 x2
  · rw [setR_get F a false x k (by omega), if_neg (by omega)]
    exact h4 x (by omega) x2
theorem rd_less (h : Rd F G (r :: A) i) (hl : F.length = 400) (hg : G.length = 400) : Rd (setR F r.1 true r.2) (setR G r.1 false r.2) A i := by
  obtain ⟨h1, h2, h3, h4⟩ := h
  obtain ⟨i1, i2, i3, i4⟩ := h1.inn r (List.mem_cons_self ..)
  rw [List.length_cons] at h2
  refine ⟨cov_less h1 hl, by omega, fun x x1 x2 => ?_, fun x x1 x2 => ?_⟩
  · rw [setR_get F r.1 true x r.2 (by omega), setR_get G r.1 false x r.2 (by omega)]
    split
    · rfl
    · exact h3 x x1 x2
  · rw [setR_get F r.1 true x r.2 (by omega)]
    split
    · rfl
    · exact h4 x x1 x2
theorem pa_start (hps : Ps W0 w1 P 400 4 (newF 400) H) {w2 : World} (ho : w2.ownsRow w1.heap.size 4 1 (.slice (some ⟨w1.heap.size, 0, none⟩) 400 400) 400 (madeCells (Value.bool false).cells (400 * 1)).toList) (hg : w1.grownBy w2 none) : ∃ F G H, Pa W0 w2 P w1.heap.size 4 F G [] (.slice none 0 0) H ∧ Rd F G [] 0 := by
  have hb := Below.grown (Below.refl w1.heap.size w1) hg (Nat.le_refl _) (fun k hk => by cases hk)
  refine ⟨newF 400, List.replicate 400 false, H, ⟨hps.below hb, fun hh => by have := hps.lt hh; omega, fun k hk => (by cases hk), full_bs (n := 400) (lo := w1.heap.size) (cap := 0) ho, List.length_replicate, hps.out.size, grow_nil _ _, fun k hk => (by cases hk)⟩, cov_start, Nat.le_refl _, fun x h1 h2 => ?_, fun x h1 h2 => ?_⟩
  · rw [newF_get (by omega), List.getD_eq_getElem?_getD, List.getElem?_replicate, if_pos h2, decide_eq_true (by omega)]; rfl
  · rw [newF_get (by omega), decide_eq_true (by omega)]
/-- A run that the law took out of its row comes back. -/
theorem Pa.back {R f q : Nat} (h : Pa W0 W P B c F G A v H) (ha : AsideR W R B (f, q) v H) (hc : c ≤ 900) (hcov : Cov F ((f, q) :: A)) : Calls Try.prog 9 #[.pointer (some ⟨P, 0, none⟩), .int .i64 f, .int .i64 q] W fun e w' => e = .returned (.int .i64 0) ∧ Hid (∃ H, Pa W0 w' P B (c + 4) (setR F f true q) G A v H ∧ AsideR w' R B (f, q) v H) ∧ w'.cell? ⟨R, 0, none⟩ = some (.int .i64 f) ∧ w'.cell? ⟨R, 1, none⟩ = some (.int .i64 q) := by
  obtain ⟨i1, i2, i3, i4⟩ := hcov.inn _ (List.mem_cons_self ..)
  refine (h.free hc i1 i2 i3 i4).mono fun e w' ⟨he, H', hp, hw⟩ => ?_
  have ha2 := ha.freed hw
  exact ⟨he, Lib.hid ⟨H', hp, ha2⟩, ha2.cells⟩
theorem Pa.twice {f q : Nat} (h : Pa W0 W P B c (setR F f true q) G A v H) (hl : F.length = 400) (hc : c ≤ 900) (hcov : Cov F ((f, q) :: A)) : Calls Try.prog 9 #[.pointer (some ⟨P, 0, none⟩), .int .i64 f, .int .i64 q] W fun e w' => e = .returned (.int .i64 5) ∧ Hid (∃ H, Pa W0 w' P B c (setR F f true q) G A v H) := by
  obtain ⟨i1, i2, i3, i4⟩ := hcov.inn _ (List.mem_cons_self ..)
  simp only at i1 i2 i3
  refine (h.again hc i1 i2 i3 (fun x x1 x2 => by rw [setR_get F f true x q (by omega), if_pos ⟨x1, x2⟩])).mono fun e w' ⟨he, H', hp, hw⟩ => ⟨he, Lib.hid ⟨H', hp⟩⟩
theorem Pa.whole (h : Pa W0 W P B c F G [] v H) (hcov : Cov F []) : Calls Try.prog 10 #[.pointer (some ⟨P, 0, none⟩)] W fun e w' => ∃ b cap : Nat, e = .returned (.slice (some ⟨b, 0, none⟩) 1 cap) ∧ w'.cell? ⟨b, 0, none⟩ = some (.int .i64 1) ∧ w'.cell? ⟨b, 1, none⟩ = some (.int .i64 399) ∧ 1 ≤ cap ∧ Hid (Below W0.heap.size W0 w') := by
  have hF := cov_end hcov h.ps.len h.ps.zero
  refine (runs_any h.ps).mono fun e w' ⟨b, cap, d, he, q1, q2, q3, q4, q5, q6, q7, q8⟩ => ?_
  rw [hF] at q6
  have hd := sorted_new (n := 400) (by omega) q6
  subst hd
  obtain ⟨c0, c1⟩ := holds_at q5 (j := 0) (by simp)
  exact ⟨b, cap, he, c0, c1, q3, Lib.hid q8.out⟩
def slen : Value → Nat
  | .slice _ n _ => n
  | _ => 0
theorem take_out : ∀ (A : List (Nat × Nat)) (k : Nat), k < A.length → A.Perm (A.getD k (0, 0) :: (A.take k ++ A.drop (k + 1)))
  | [], k, h => by cases h
  | x :: t, 0, h => by simp
  | x :: t, k + 1, h => by
    have ih := take_out t k (by simpa using h)
    simp only [List.getD_cons_succ, List.take_succ_cons, List.drop_succ_cons, List.cons_append]
    exact (List.Perm.cons x ih).trans (List.Perm.swap ..)
theorem low_new {N n c : Nat} {K : Nat} (h : N ≤ K) : Low N (fun k => (Value.slice (some ⟨K, 0, none⟩) n c).ownBlock = some k) := fun k hk => by
  obtain rfl : K = k := Option.some.inj hk
  exact h
theorem src_row (hg : GRow 2 W v A.length (rc A)) : Src Try.prog 2 29 v A.length (rc A) W := by
  have hlen := hg.len
  obtain ⟨ao, b, off, cap, rfl, hc, hm, hx⟩ := hg
  rcases hx with ⟨rfl, hb⟩ | ⟨rfl, rfl⟩
  · exact Src.ofSlice _ Try.underlying29 ⟨b, off, none⟩ A.length cap (rc A) hlen (fun j u hj => by rw [addr_add]; exact hc.olds j u hj) (rc_one A)
  · have h1 := hc.le
    have h2 : A = [] := List.eq_nil_of_length_eq_zero (by omega)
    subst h2
    exact Src.ofNil _ Try.underlying29 0
theorem Pa.rest {off : Nat} {a1 : Option Addr} (h : Pa W0 W P B c F G A (.slice (some ⟨b, off, none⟩) A.length N) H) (hi : i < A.length) (ha : a1 = some ⟨b, off + (i + 1) * 2, none⟩ ∨ N = i + 1 ∧ a1 = some ⟨b, off, none⟩) (hU : Below W.heap.size W w') : Src Try.prog 2 29 (.slice a1 (A.length - (i + 1)) (N - (i + 1))) (A.length - (i + 1)) (rc (A.drop (i + 1))) w' := by
  have hd := ((h.row.drop (k := i + 1) (a1 := a1) (by omega) (ha.imp (fun e => by rw [e]; simp [addr_add]) id)).1).below hU
  rw [rc_drop] at hd
  have hl : (A.drop (i + 1)).length = A.length - (i + 1) := List.length_drop
  rw [← hl] at hd ⊢
  exact src_row hd
/-- A row of the law's without its i-th: both appends. -/
theorem Pa.part (h : Pa W0 W P B c F G A (.slice (some ⟨b, K, none⟩) A.length N) H) (hi : i < A.length) (hU : Below W.heap.size W w') : Src Try.prog 2 29 (.slice (some ⟨b, K, none⟩) i N) i (rc (A.take i)) w' := by
  have hg := (h.row.take (k := i) (by omega)).below hU
  rw [rc_take] at hg
  have hlen := hg.len
  obtain ⟨ao, b', off, cap, e, hc, hm, hx⟩ := hg
  cases e
  rcases hx with ⟨e, hb⟩ | ⟨e, _⟩
  · cases e
    have hl : (A.take i).length = i := by rw [List.length_take]; omega
    exact Src.ofSlice _ Try.underlying29 ⟨b, K, none⟩ i N (rc (A.take i)) (by rw [rc_len, hl]) (fun j u hj => by rw [addr_add]; exact hc.olds j u hj) (rc_one _)
  · cases e
theorem src_run {W : World} {K : Nat} {a b : Int} (hb : W.heap[K]? = some (.cells #[.int .i64 a, .int .i64 b] 34 (0, 0))) : Src Try.prog 2 29 (.slice (some ⟨K, 0, none⟩) 1 1) 1 [.int .i64 a, .int .i64 b] W := src_new (s := 2) (A := #[.int .i64 a, .int .i64 b]) Try.underlying29 rfl (by simp [Value.oneCell']) hb
theorem lit_run {W : World} {K : Nat} (h : K < W.heap.size) : GRow 2 W (.slice (some ⟨K, 0, none⟩) 0 0) 0 [] := ⟨some ⟨K, 0, none⟩, K, 0, 0, rfl, ⟨by decide, fun h => (by omega), fun h => (by omega), by simp, fun j u h => (by simp at h), fun j h => (by omega)⟩, ⟨by decide, fun j h => by omega⟩, .inl ⟨rfl, h⟩⟩
theorem app_first {wq W : World} {N : Nat} {X : List Value} {m : Nat} (hb : Below wq.heap.size wq W) (hN : wq.heap.size ≤ N) (g1 : GRow 2 w1 v1 (0 + m) ([] ++ X)) (g2 : Wrote (fun k => (Value.slice (some ⟨N, 0, none⟩) 0 0).ownBlock = some k) W (fun k => v1.ownBlock = some k) w1) : GRow 2 w1 v1 m X ∧ Low wq.heap.size (fun k => v1.ownBlock = some k) ∧ Below wq.heap.size wq w1 := by
  have hlow := low_new (n := 0) (c := 0) hN
  exact ⟨by rw [Nat.zero_add] at g1; exact g1, g2.low hlow hb.size, g2.below hlow hb⟩
theorem app_next {wq W : World} {v2 : Value} {w2 : World} (hb : Below wq.heap.size wq W) (hl : Low wq.heap.size (fun k => v1.ownBlock = some k)) (g2 : Wrote (fun k => v1.ownBlock = some k) W (fun k => v2.ownBlock = some k) w2) : Low wq.heap.size (fun k => v2.ownBlock = some k) ∧ Below wq.heap.size wq w2 := ⟨g2.low hl hb.size, g2.below hl hb⟩
theorem lt_new (w : World) (o : Obj) : w.heap.size < (w.alloc o).heap.size := by
  show _ < (w.heap.push _).size; rw [Array.size_push]; omega
theorem Pa.taken {R : Nat} {U : World} (h : Pa W0 U P B c F G A v H) (hi : i < A.length) (hb : Below U.heap.size U w') (ho : U.heap[R]? = some (.cells #[.int .i64 r.1, .int .i64 r.2] 34 (0, 0))) (hR : ¬ H R) (hRB : R ≠ B) (hr : GRow 2 w' v1 (i + (A.length - (i + 1))) (rc (A.take i) ++ rc (A.drop (i + 1)))) (hl : Low U.heap.size (fun k => v1.ownBlock = some k)) : Pa W0 w' P B c F G (A.take i ++ A.drop (i + 1)) v1 H ∧ AsideR w' R B r v1 H := by
  have hRl := block_lt ho
  refine ⟨h.fresh hb ?_ hl, ⟨(hb.block R hRl).trans ho, hR, hRB, fun e => by have := hl R e; omega⟩⟩
  rw [rc_app, List.length_append, List.length_take, List.length_drop, Nat.min_eq_left (by omega)]
  exact hr
end Pg
end Go.Proofs.Ytbheabjemaaeoab
