/- Pages of the program, and the document's own beside them. -/
import Derived.Test.YtbheabjemaaeoabRPg4
namespace Go.Proofs.Ytbheabjemaaeoab
open Go.RowKit Go.Lib Fx Ho Gr Go.Sort
set_option linter.unusedVariables false
namespace Pg
variable {W0 w w1 w' W W' : World} {P X Y B R b n c c' i j k q K a N p t s D m z : Nat} {v v1 : Value} {H H' : Home} {F F' G : List Bool} {d : Array Pr2} {A A' L : List (Nat × Nat)} {r : Nat × Nat} {o : Obj} {e : Ending}
def NewP (n : Nat) (w : World) (e : Ending) (w' : World) : Prop := ∃ X Y, e = .returned (.pointer (some ⟨X, 0, none⟩)) ∧ w.heap.size ≤ X ∧ w.heap.size ≤ Y ∧ Rp w' X Y n (newF n) ∧ Below w.heap.size w w'
set_option maxRecDepth 100000 in
set_option maxHeartbeats 2000000 in
theorem rnew_any (x : Int) (w : World) : Calls Try.prog 13 #[.int .i64 x] w (NewP (many x) w) := by
  obtain ⟨ti, hi, hz0, hz1, hz2⟩ := info_parts infoBool
  obtain ⟨m1, hm1⟩ : ∃ m1, min x 262144 = m1 := ⟨_, rfl⟩
  obtain ⟨n, hn⟩ : ∃ n, many x = n := ⟨_, rfl⟩
  have hm2 : max 1 m1 = (n : Int) := by rw [← hn, ← hm1]; unfold many; omega
  have hn1 : 1 ≤ n := by omega
  have hn2 : n ≤ 262144 := by rw [← hn]; unfold many; omega
  have r1 := @run_min2 Try.prog _ _ _ hm1
  have r2 := @run_max2 Try.prog _ _ _ hm2
  have key : Hid (∀ w1, w1.ownsRow w.heap.size 4 1 (.slice (some ⟨w.heap.size, 0, none⟩) n n) n (madeCells (Value.bool false).cells (n * 1)).toList → w.grownBy w1 none → Hid (∀ U : World, U = w1.alloc (.cells #[.slice (some ⟨w.heap.size, 0, none⟩) n n] 60) → Rp U w1.heap.size w.heap.size n (List.replicate n false) ∧ Below w.heap.size w U ∧ w.heap.size ≤ w1.heap.size)) := Lib.hid fun w1 ho hg => Lib.hid fun U e => by
    subst e
    have hb1 : Below w.heap.size w w1 := Below.grown (Below.refl _ _) hg (Nat.le_refl _) (fun k hk => by cases hk)
    have hf := full_bs (lo := w.heap.size) (cap := n) ho
    have hl := block_lt hf
    exact ⟨⟨heap_alloc_new _ _, ((below_alloc (Below.refl w1.heap.size w1) _).block _ hl).trans hf, List.length_replicate, by omega⟩, below_alloc hb1 _, hb1.size⟩
  rw [hn]
  clear hn
  go_enter Try.func13, Try.ntmps13
  go_wp2_with (refine wpList_make_full _ rfl _ _ 28 rfl w.heap.size 4 ti (.bool false) 1 Try.underlying28 hi hz0 hz1 .i64 .i64 _ _ n rfl rfl rfl rfl (by rw [hz2]; omega) (by unfold maxLen; omega) (Nat.le_refl _) ?_; intro w1 hown1 hgrow1; have k1 := key.out w1 hown1 hgrow1; clear hown1 hgrow1 key)
  obtain ⟨X, hX⟩ : ∃ X, w1.heap.size = X := ⟨_, rfl⟩
  obtain ⟨Y, hY⟩ : ∃ Y, w.heap.size = Y := ⟨_, rfl⟩
  have hst := k1.out _ rfl
  rw [hX, hY] at hst
  clear k1
  replace hst := Lib.hid hst
  obtain ⟨U, hU⟩ : ∃ U, w1.alloc (.cells #[.slice (some ⟨Y, 0, none⟩) n n] 60) = U := ⟨_, rfl⟩
  rw [hX, hY, hU]
  rw [hU] at hst
  clear hU
  have h2 : Hid (Rp U X Y n (setR (List.replicate n false) 1 true 0) ∧ Wrote (fun k => k = Y) U (fun k => k = Y) U) := Lib.hid ⟨hst.out.1, Wrote.refl _ _⟩
  go_wp2_with fail
  go_loopw [4] (fun u4 wr => ∃ j : Nat, u4 = .int .i64 (j + 1 : Nat) ∧ j + 1 ≤ n ∧ Hid (Rp wr X Y n (setR (List.replicate n false) 1 true j) ∧ Wrote (fun k => k = Y) U (fun k => k = Y) wr)) (fun y _ => (n + 1 - (RowKit.intOf y).toNat))
  case atStart => exact ⟨0, rfl, by omega, h2⟩
  case round =>
    clear h2
    obtain ⟨j, rfl, jn, hR⟩ := hrel
    have c0 := hR.out.1.c0
    obtain ⟨m, hm⟩ : ∃ m, j + 1 = m := ⟨_, rfl⟩
    rw [hm] at jn ⊢
    have j0 : (0 : Int) ≤ (m : Int) := by omega
    by_cases hj : m < n
    · have j1 : (m : Int) < (n : Int) := by omega
      obtain ⟨c1, c2⟩ := hR.out.1.at_ (p := m) hj
      generalize (setR (List.replicate n false) 1 true j).getD m false = y at c1
      have hnx : Hid (Rp (wr.setCell ⟨Y, m, none⟩ (.bool true)) X Y n (setR (List.replicate n false) 1 true m) ∧ Wrote (fun k => k = Y) U (fun k => k = Y) (wr.setCell ⟨Y, m, none⟩ (.bool true))) := Lib.hid (by
        subst hm
        refine ⟨?_, hR.out.2.trans (wr1 _ _ _ _)⟩
        have := hR.out.1.set (p := j + 1) true
        have e : setR (List.replicate n false) 1 true (j + 1) = (setR (List.replicate n false) 1 true j).set (1 + j) true := rfl
        rw [e, Nat.add_comm 1 j]
        exact this)
      replace hm := Lib.hid hm
      clear hR
      go_wp2_with fail
      go_roundw
      case rel => exact ⟨m, by go_num, by omega, hnx⟩
      case measure => simp [RowKit.intOf]; omega
    · obtain rfl : m = n := by omega
      have j1 : ¬ (m : Int) < (m : Int) := by omega
      replace hm := Lib.hid hm
      go_wp2_with fail
      go_ret
      have h1 := hst.out
      have h2 := hR.out
      have hlow : Y ≤ Y := Nat.le_refl _
      subst hY
      refine ⟨X, w.heap.size, rfl, h1.2.2, Nat.le_refl _, ?_, Rw.below_of_wrote h2.2 (fun k e => by rw [show k = w.heap.size from e]; exact Nat.le_refl _) h1.2.1.size |> h1.2.1.trans⟩
      have := h2.1
      rwa [show j = m - 1 by have := hm.out; omega] at this
/-- Both hold the same pages; the law's row of what was handed out. -/
structure Bp (W0 W : World) (P X Y n c : Nat) (Fp Fr : List Bool) (A : List (Nat × Nat)) (v : Value) (H : Home) : Prop where
  ps : Ps W0 W P n c Fp H
  rp : Rp W X Y n Fr
  hX : ¬ H X
  hY : ¬ H Y
  lX : W0.heap.size ≤ X
  lY : W0.heap.size ≤ Y
  row : GRow 2 W v A.length (rc A)
  nv : ∀ k, v.ownBlock = some k → ¬ H k ∧ k ≠ X ∧ k ≠ Y ∧ W0.heap.size ≤ k
variable {Fp Fr : List Bool}
theorem Bp.below (h : Bp W0 W P X Y n c Fp Fr A v H) (hb : Below W.heap.size W w') : Bp W0 w' P X Y n c Fp Fr A v H := ⟨h.ps.below hb, h.rp.below hb, h.hX, h.hY, h.lX, h.lY, h.row.below hb, h.nv⟩
theorem Bp.mono (h : Bp W0 W P X Y n c Fp Fr A v H) (hc : c ≤ c') : Bp W0 W P X Y n c' Fp Fr A v H := ⟨h.ps.mono hc, h.rp, h.hX, h.hY, h.lX, h.lY, h.row, h.nv⟩
theorem Bp.left {t : Value} (h : Bp W0 W P X Y n c Fp Fr A v H) (hs : Step t W0 W P n c' F' H e w') : ∃ H', Wrote H W H' w' ∧ Bp W0 w' P X Y n c' F' Fr A v H' := by
  obtain ⟨he, H', hw, hp⟩ := hs
  have old : ∀ k, k < W.heap.size → ¬ H k → ¬ H' k := fun k hk hn hh => (hw.home k hh).elim hn (fun e => by omega)
  exact ⟨H', hw, hp, h.rp.wrote hw h.hX h.hY, old X (block_lt h.rp.hx) h.hX, old Y (block_lt h.rp.hy) h.hY, h.lX, h.lY, h.row.wrote hw (fun k hk => (h.nv k hk).1), fun k hk => ⟨old k (h.row.lt hk) (h.nv k hk).1, (h.nv k hk).2⟩⟩
theorem Bp.right (h : Bp W0 W P X Y n c Fp Fr A v H) (hw : Wrote (fun k => k = Y) W (fun k => k = Y) w') (hr : Rp w' X Y n F') : Bp W0 w' P X Y n c Fp F' A v H :=
  ⟨h.ps.wrote hw (fun k hk e => h.hY (by rw [← show k = Y from e]; exact hk)) (fun k e => by rw [show k = Y from e]; exact h.lY), hr, h.hX, h.hY, h.lX, h.lY, h.row.wrote hw (fun k hk e => (h.nv k hk).2.2.1 e), h.nv⟩
theorem Bp.lay (h : Bp W0 W P X Y n c Fp Fr A v H) (hw : Wrote (fun k => v.ownBlock = some k) W (fun k => v1.ownBlock = some k) w') (hr : GRow 2 w' v1 A'.length (rc A')) : Bp W0 w' P X Y n c Fp Fr A' v1 H := by
  refine ⟨h.ps.wrote hw (fun k hk e => (h.nv k e).1 hk) (fun k e => (h.nv k e).2.2.2), h.rp.wrote hw (fun e => (h.nv X e).2.1 rfl) (fun e => (h.nv Y e).2.2.1 rfl), h.hX, h.hY, h.lX, h.lY, hr, fun k hk => (hw.home k hk).elim (h.nv k) (fun e => ⟨fun hh => by have := h.ps.lt hh; omega, fun e2 => by have := block_lt h.rp.hx; omega, fun e2 => by have := block_lt h.rp.hy; omega, by have := h.ps.out.size; omega⟩)⟩
/-- .. and a block z of the law's own beside them. -/
structure Bz (W0 W : World) (P X Y n c : Nat) (A : List (Nat × Nat)) (v : Value) (z : Nat) (o : Obj) : Prop where
  zc : W.heap[z]? = some o
  st : ∃ F H, Bp W0 W P X Y n c F F A v H ∧ ¬ H z ∧ z ≠ X ∧ z ≠ Y ∧ v.ownBlock ≠ some z
def Zz (W0 W : World) (P X Y n c : Nat) (A : List (Nat × Nat)) (v : Value) : Prop := ∃ F H, Bp W0 W P X Y n c F F A v H
theorem Bz.zz (h : Bz W0 W P X Y n c A v z o) : Zz W0 W P X Y n c A v := by obtain ⟨F, H, h1, _⟩ := h.st; exact ⟨F, H, h1⟩
theorem Zz.bel (h : Zz W0 W P X Y n c A v) : Below W0.heap.size W0 W := by obtain ⟨F, H, h1⟩ := h; exact h1.ps.out
theorem Zz.below (h : Zz W0 W P X Y n c A v) (hb : Below W.heap.size W W') : Zz W0 W' P X Y n c A v := by obtain ⟨F, H, h1⟩ := h; exact ⟨F, H, h1.below hb⟩
theorem Zz.mono (h : Zz W0 W P X Y n c A v) (hc : c ≤ c') : Zz W0 W P X Y n c' A v := by obtain ⟨F, H, h1⟩ := h; exact ⟨F, H, h1.mono hc⟩
theorem Zz.row (h : Zz W0 W P X Y n c A v) : GRow 2 W v A.length (rc A) := by obtain ⟨F, H, h1⟩ := h; exact h1.row
theorem bz_of {C : Array Value} {t : TypeId} (h : Zz W0 W P X Y n c A v) (hz : W.heap.size = z) : Bz W0 (W.alloc (.cells C t)) P X Y n c A v z (.cells C t (0, 0)) := by
  obtain ⟨F, H, h1⟩ := h
  exact ⟨by rw [← hz]; exact heap_alloc_new _ _, F, H, h1.below (below_alloc (Below.refl _ _) _), fun hk => by have := h1.ps.lt hk; omega, fun e => by have := block_lt h1.rp.hx; omega, fun e => by have := block_lt h1.rp.hy; omega, fun e => by have := h1.row.lt e; omega⟩
theorem Bz.below (h : Bz W0 W P X Y n c A v z o) (hb : Below W.heap.size W W') : Bz W0 W' P X Y n c A v z o := by
  obtain ⟨F, H, h1, h2⟩ := h.st
  exact ⟨(hb.block z (block_lt h.zc)).trans h.zc, F, H, h1.below hb, h2⟩
theorem Bz.mono (h : Bz W0 W P X Y n c A v z o) (hc : c ≤ c') : Bz W0 W P X Y n c' A v z o := by
  obtain ⟨F, H, h1, h2⟩ := h.st
  exact ⟨h.zc, F, H, h1.mono hc, h2⟩
/-- Two calls that answer the same. -/
def Two (g : Nat) (args : Array Value) (t : Value) (W0 : World) (P X Y n c : Nat) (A : List (Nat × Nat)) (v : Value) (z : Nat) (o : Obj) (e : Ending) (W1 : World) : Prop :=
  e = .returned t ∧ W1.heap[z]? = some o ∧ Hid (∀ V, Below W1.heap.size W1 V → Calls Try.prog g args V fun e2 W2 => e2 = .returned t ∧ W2.heap[z]? = some o ∧ Hid (Bz W0 W2 P X Y n c A v z o))
theorem two_of {g : Nat} {args : Array Value} {t : Value} (h : Bp W0 W P X Y n c F F A v H) (hz : W.heap[z]? = some o) (h1 : ¬ H z) (h2 : z ≠ X) (h3 : z ≠ Y) (h4 : v.ownBlock ≠ some z) (hs : Step t W0 W P n c' F' H e w') (hg : ∀ V, Rp V X Y n F → Calls Try.prog g args V fun e2 W2 => e2 = .returned t ∧ Rp W2 X Y n F' ∧ Wrote (fun k => k = Y) V (fun k => k = Y) W2) : Two g args t W0 P X Y n c' A v z o e w' := by
  obtain ⟨H', hw, hp⟩ := h.left hs
  have hzl := block_lt hz
  have hz1 : w'.heap[z]? = some o := (hw.block z hzl h1).trans hz
  refine ⟨hs.1, hz1, Lib.hid fun V hV => (hg V (hp.below hV).rp).mono fun e2 W2 ⟨he, hr, hw2⟩ => ?_⟩
  have hzV : V.heap[z]? = some o := (hV.block z (block_lt hz1)).trans hz1
  have hz2 : W2.heap[z]? = some o := (hw2.block z (block_lt hzV) h3).trans hzV
  exact ⟨he, hz2, Lib.hid ⟨hz2, F', H', (hp.below hV).right hw2 hr, fun hh => (hw.home z hh).elim h1 (fun e => by omega), h2, h3, h4⟩⟩
theorem still_r {f : Nat} {args : Array Value} {t : Value} {V : World} (h : Rp V X Y n F) (hf : Calls Try.prog f args V (Still t V)) : Calls Try.prog f args V fun e2 W2 => e2 = .returned t ∧ Rp W2 X Y n F ∧ Wrote (fun k => k = Y) V (fun k => k = Y) W2 := hf.mono fun e W ⟨he, hw⟩ => by
  subst hw
  exact ⟨he, h, Wrote.refl _ _⟩
/-- Both hand out the same pages. -/
theorem z_alloc (h : Bz W0 W P X Y n c A v z o) (hc : c ≤ 900) (k : Int) : Calls Try.prog 7 #[.pointer (some ⟨P, 0, none⟩), .int .i64 k] W fun e w' => ∃ a f : Int, Two 14 #[.pointer (some ⟨X, 0, none⟩), .int .i64 k] (.tuple #[.int .i64 a, .int .i64 f]) W0 P X Y n (c + 4) A v z o e w' ∧ (f = 0 → ∃ p q : Nat, a = (p : Int) ∧ k = (q : Int) ∧ p ≤ 300000 ∧ q ≤ 300000) := by
  obtain ⟨F, H, hp, h1, h2, h3, h4⟩ := h.st
  have hz := h.zc
  have hnb := hp.ps.nb
  refine (alloc_any hp.ps (by omega) k).mono fun e w' hh => ?_
  rcases hh with ⟨hk, hs⟩ | ⟨hk, hno, hs⟩ | ⟨a, K, q, hkq, q1, hb, hs⟩
  · have hs2 := two_of hp hz h1 h2 h3 h4 hs (fun V hV => still_r hV (ralloc_bad hV k hk))
    obtain ⟨e1, e2, e3⟩ := hs2
    exact ⟨0, 1, ⟨e1, e2, Lib.hid fun V hV => (e3.out V hV).mono fun e2 W2 ⟨a1, a2, a3⟩ => ⟨a1, a2, Lib.hid (a3.out.mono (by omega))⟩⟩, fun e => by omega⟩
  · obtain ⟨q, rfl⟩ : ∃ q : Nat, k = (q : Int) := ⟨k.toNat, by omega⟩
    have hs2 := two_of hp hz h1 h2 h3 h4 hs (fun V hV => (ralloc_any hV hp.ps.zero (by omega) _ q rfl (by omega)).mono fun e2 W2 hh => by
      rcases hh with ⟨_, b1, b2, b3⟩ | ⟨a, K, b0, b1, b2, b3⟩
      · exact ⟨b1, b2, b3⟩
      · have := hno a K b0.1; have := b0.2.1; omega)
    obtain ⟨e1, e2, e3⟩ := hs2
    exact ⟨0, 3, ⟨e1, e2, Lib.hid fun V hV => (e3.out V hV).mono fun e2 W2 ⟨a1, a2, a3⟩ => ⟨a1, a2, Lib.hid (a3.out.mono (by omega))⟩⟩, fun e => by omega⟩
  · have hs2 := two_of hp hz h1 h2 h3 h4 hs (fun V hV => (ralloc_any hV hp.ps.zero (by omega) _ q hkq q1).mono fun e2 W2 hh => by
      rcases hh with ⟨b0, b1, b2, b3⟩ | ⟨a', K', b0, b1, b2, b3⟩
      · have := b0 a K hb.1; have := hb.2.1; omega
      · obtain rfl := hb.one b0
        exact ⟨b1, b2, b3⟩)
    have h5 := hb.1.le
    have h6 := hb.2.1
    have h7 := hb.1.k1
    exact ⟨a, 0, hs2, fun _ => ⟨a, q, rfl, hkq, by omega, by omega⟩⟩
/-- Both take the same pages back. -/
theorem z_free (h : Bz W0 W P X Y n c A v z o) (hc : c ≤ 900) (f k : Int) (hwf : f ≤ 9223372036854775807) : Calls Try.prog 9 #[.pointer (some ⟨P, 0, none⟩), .int .i64 f, .int .i64 k] W fun e w' => ∃ r : Int, Two 15 #[.pointer (some ⟨X, 0, none⟩), .int .i64 f, .int .i64 k] (.int .i64 r) W0 P X Y n (c + 4) A v z o e w' := by
  obtain ⟨F, H, hp, h1, h2, h3, h4⟩ := h.st
  have hz := h.zc
  have hnb := hp.ps.nb
  refine (free_any hp.ps (by omega) f k hwf).mono fun e w' hh => ?_
  rcases hh with ⟨hk, hs⟩ | ⟨p, q, rfl, rfl, p1, q1, hpq, ⟨hany, hs⟩ | ⟨hno, hs⟩⟩
  · have hs2 := two_of hp hz h1 h2 h3 h4 hs (fun V hV => still_r hV (back_bad hV (by omega) f k hk))
    obtain ⟨e1, e2, e3⟩ := hs2
    exact ⟨1, ⟨e1, e2, Lib.hid fun V hV => (e3.out V hV).mono fun e2 W2 ⟨a1, a2, a3⟩ => ⟨a1, a2, Lib.hid (a3.out.mono (by omega))⟩⟩⟩
  · have hs2 := two_of hp hz h1 h2 h3 h4 hs (fun V hV => (back_any hV (by omega) p1 q1 hpq).mono fun e2 W2 hh => by
      rcases hh with ⟨_, b1, b2⟩ | ⟨b0, _⟩
      · subst b2; exact ⟨b1, hV, Wrote.refl _ _⟩
      · obtain ⟨i, i1, i2, i3⟩ := hany
        rw [b0 i i1 i2] at i3; cases i3)
    obtain ⟨e1, e2, e3⟩ := hs2
    exact ⟨5, ⟨e1, e2, Lib.hid fun V hV => (e3.out V hV).mono fun e2 W2 ⟨a1, a2, a3⟩ => ⟨a1, a2, Lib.hid (a3.out.mono (by omega))⟩⟩⟩
  · have hs2 := two_of hp hz h1 h2 h3 h4 hs (fun V hV => (back_any hV (by omega) p1 q1 hpq).mono fun e2 W2 hh => by
      rcases hh with ⟨⟨i, i1, i2, i3⟩, _⟩ | ⟨_, b1, b2, b3⟩
      · rw [hno i i1 i2] at i3; cases i3
      · exact ⟨b1, b2, b3⟩)
    exact ⟨0, hs2⟩
/-- A block that holds the elements of an array still does where the world below has not turned. -/
theorem holds_below {d : Array Pr2} (h : HoldsK encR 2 w b 0 d) (hb : b < w.heap.size) (hw : Below w.heap.size w w') : HoldsK encR 2 w' b 0 d := fun j hj => by
  obtain ⟨h1, h2⟩ := h j hj
  exact ⟨by rw [World.cell?_of_block (a := ⟨b, 0 + j, none⟩) (hw.block b hb)]; exact h1, by rw [World.frozen?_of_block (a := ⟨b, 0 + j, none⟩) (hw.block b hb)]; exact h2⟩
/-- Both tell the same runs, and as many that are left. -/
theorem z_runs (h : Zz W0 W P X Y n c A v) : Calls Try.prog 10 #[.pointer (some ⟨P, 0, none⟩)] W fun e w' => ∃ v1, e = .returned v1 ∧ Hid (∀ V, Below w'.heap.size w' V → Calls Try.prog 17 #[.pointer (some ⟨X, 0, none⟩)] V fun e2 W2 => ∃ v2, e2 = .returned v2 ∧ Hid (∀ V, Below W2.heap.size W2 V → Calls Try.prog 16 #[v1, v2] V fun e3 W3 => e3 = .returned (.bool true) ∧ ∃ r : Int, Hid (∀ V, Below W3.heap.size W3 V → Calls Try.prog 11 #[.pointer (some ⟨P, 0, none⟩)] V fun e4 W4 => e4 = .returned (.int .i64 r) ∧ Hid (∀ V, Below W4.heap.size W4 V → Calls Try.prog 18 #[.pointer (some ⟨X, 0, none⟩)] V fun e5 W5 => e5 = .returned (.int .i64 r) ∧ Hid (Zz W0 W5 P X Y n c A v))))) := by
  obtain ⟨F, H, hp⟩ := h
  have hnb := hp.ps.nb
  refine (runs_any hp.ps).mono fun e w' ⟨b, cap, d, he, q1, q2, q3, q4, q5, q6, q7, q8⟩ => ⟨_, he, Lib.hid fun V hV => ?_⟩
  have hpV := (hp.below q7).below hV
  refine (rruns_any hpV.rp hp.ps.zero (by omega)).mono fun e2 W2 ⟨v2, L, he2, hR⟩ => ⟨v2, he2, Lib.hid fun V2 hV2 => ?_⟩
  have hdl := sorted_list hR.rt hp.ps.len q6
  have hd2 := holds_below (holds_below (holds_below q5 q2 hV) (Nat.lt_of_lt_of_le q2 hV.size) hR.bel) (Nat.lt_of_lt_of_le (Nat.lt_of_lt_of_le q2 hV.size) hR.bel.size) hV2
  refine (same_runs hd2 (hR.row.below hV2) hdl (by have := hR.len; omega)).mono fun e3 W3 ⟨he3, hb3⟩ => ⟨he3, cnt F, Lib.hid fun V3 hV3 => ?_⟩
  have hp3 := (((hpV.below hR.bel).below hV2).below hb3).below hV3
  refine (left_any hp3.ps).mono fun e4 W4 ⟨he4, hw4⟩ => ⟨he4, Lib.hid fun V4 hV4 => ?_⟩
  subst hw4
  have hp4 := hp3.below hV4
  refine (rleft_any hp4.rp (by omega)).mono fun e5 W5 ⟨he5, hw5⟩ => ⟨he5, Lib.hid ?_⟩
  subst hw5
  exact ⟨F, H, hp4⟩
end Pg
end Go.Proofs.Ytbheabjemaaeoab
