/- More of package wait: Wake, Del, Len, All; what may not be; calls of none; the law's own told. -/
import Derived.Test.YtmngaedcckjfoabWaitDo
import Derived.Laws.Rows
import Derived.RegionTactic
import Derived.Deep.RegionLaw
import Derived.StillTailTactics
import Derived.Deep.RegionHeld3
import Derived.Deep.RegionWith
namespace Go.Proofs.Ytmngaedcckjfoab
open Go.RowKit Go.Lib Fx Ho Gr Qu Rw
set_option linter.unusedVariables false
namespace Wt
variable {w w' W W0 : World} {p : Nat} {V : Nat → Value} {Z : Nat → List Int} {H H' : Home}
theorem below_same {a b : World} (hh : b.heap = a.heap) (ho : b.os = a.os) (ht : b.tape = a.tape) (hu : b.output = a.output) : Below a.heap.size a b := ⟨ho, ht, hu, by rw [hh]; exact Nat.le_refl _, fun k _ => by rw [hh]⟩
set_option maxRecDepth 100000 in
theorem wait_busy (h : Sw W0 W p H Z) {a : Nat} (ha : a < 32) (g : Int) {b : Nat} {A B : List Int} (hat : At Z g b A B) : Calls Try.prog 38 #[.pointer (some ⟨p, 0, none⟩), .int .i64 a, .int .i64 g] W (Still (.int .i64 5) W) := by
  obtain ⟨V, h1, _⟩ := h
  have cp := place_in a ha W
  have cs := seek_yes h1 g hat
  clear h1 hat
  go_enter Try.func38, Try.ntmps38
  go_wp2_with fail
  with_reducible refine Calls.mono (cp) ?_
  rintro e w2 ⟨rfl, rfl⟩
  clear cp
  go_wp2_with fail
  with_reducible refine Calls.mono (cs) ?_
  rintro e w2 ⟨rfl, rfl⟩
  clear cs
  go_wp2_with fail
  go_ret
  exact ⟨rfl, rfl⟩
set_option maxRecDepth 100000 in
theorem wait_range (a g : Int) (ha : a < 0 ∨ 32 ≤ a) (w : World) : Calls Try.prog 38 #[.pointer (some ⟨p, 0, none⟩), .int .i64 a, .int .i64 g] w (Still (.int .i64 2) w) := by
  have cp := place_out a ha w
  clear ha
  go_enter Try.func38, Try.ntmps38
  go_wp2_with fail
  with_reducible refine Calls.mono (cp) ?_
  rintro e w2 ⟨rfl, rfl⟩
  clear cp
  go_wp2_with fail
  go_ret
  exact ⟨rfl, rfl⟩
set_option maxRecDepth 100000 in
theorem wait_nil (a g : Int) (w : World) : Calls Try.prog 38 #[.pointer none, .int .i64 a, .int .i64 g] w (Still (.int .i64 1) w) := by
  go_enter Try.func38, Try.ntmps38
  go_wp2_with fail
  go_ret
  exact ⟨rfl, rfl⟩
set_option maxRecDepth 100000 in
theorem wake_nil (a : Int) (w : World) : Calls Try.prog 40 #[.pointer none, .int .i64 a] w (Still (.tuple #[.int .i64 0, .bool false]) w) := by
  go_enter Try.func40, Try.ntmps40
  go_wp2_with fail
  go_ret2
  exact ⟨rfl, rfl⟩
set_option maxRecDepth 100000 in
theorem len_nil (w : World) : Calls Try.prog 44 #[.pointer none] w (Still (.int .i64 0) w) := by
  go_enter Try.func44, Try.ntmps44
  go_wp2_with fail
  go_ret
  exact ⟨rfl, rfl⟩
set_option maxRecDepth 100000 in
theorem wake_out (a : Int) (ha : a < 0 ∨ 32 ≤ a) (w : World) : Calls Try.prog 40 #[.pointer (some ⟨p, 0, none⟩), .int .i64 a] w (Still (.tuple #[.int .i64 0, .bool false]) w) := by
  have cp := place_out a ha w
  clear ha
  go_enter Try.func40, Try.ntmps40
  go_wp2_with fail
  with_reducible refine Calls.mono (cp) ?_
  rintro e w2 ⟨rfl, rfl⟩
  clear cp
  go_wp2_with fail
  go_ret2
  exact ⟨rfl, rfl⟩
set_option maxRecDepth 100000 in
theorem wake_none (h : Sw W0 W p H Z) {a : Nat} (ha : a < 32) (hz : Z a = []) : Calls Try.prog 40 #[.pointer (some ⟨p, 0, none⟩), .int .i64 a] W (Still (.tuple #[.int .i64 0, .bool false]) W) := by
  obtain ⟨V, h1, _⟩ := h
  have cp := place_in a ha W
  have c0 := (h1.cell ha).1
  obtain ⟨sv, cv, hv⟩ := (h1.row a ha).slice
  rw [hz] at hv
  rw [hv] at c0
  have i0 : (0 : Int) ≤ (a : Int) := by omega
  have i2 : (a : Int) < 32 := by omega
  clear h1 hv hz
  replace c0 : W.cell? ⟨p, a, none⟩ = some (.slice sv 0 cv) := c0
  go_enter Try.func40, Try.ntmps40
  go_wp2_with fail
  with_reducible refine Calls.mono (cp) ?_
  rintro e w2 ⟨rfl, rfl⟩
  clear cp
  go_wp2_with fail
  go_ret2
  exact ⟨rfl, rfl⟩
set_option maxRecDepth 100000 in
set_option maxHeartbeats 2000000 in
theorem wake_some (h : Sw W0 W p H Z) {a : Nat} (ha : a < 32) {g : Int} {T : List Int} (hz : Z a = g :: T) : Calls Try.prog 40 #[.pointer (some ⟨p, 0, none⟩), .int .i64 a] W (Step (.tuple #[.int .i64 g, .bool true]) W0 W p H (upd Z a T)) := by
  obtain ⟨V, h1, hl, hb0, rfl⟩ := h
  have cp := place_in a ha W
  obtain ⟨c0, f0⟩ := h1.cell ha
  have hr := h1.row a ha
  rw [hz] at hr
  obtain ⟨ao, b, off, cap, hv, g1, g2, g3, g4⟩ := hr.cell
  have hn : (g :: T).length = T.length + 1 := rfl
  rw [hn] at hv g1
  obtain ⟨rfl, g5⟩ := g3 (by omega)
  have g6 : W.cell? ⟨b, off, none⟩ = some (.int .i64 g) := by simpa using g4 0 (by simp)
  have key : Hid (∀ a1 n, (a1 = some ⟨b, off + 1, none⟩ ∨ cap = 1 ∧ a1 = some ⟨b, off, none⟩) → n = T.length → ∀ W', W'.heap = (W.setCell ⟨p, a, none⟩ (.slice a1 n (cap - 1))).heap → W'.os = W.os → W'.tape = W.tape → W'.output = W.output → ∀ e, e = .returned (.tuple #[.int .i64 g, .bool true]) → Step (.tuple #[.int .i64 g, .bool true]) W0 W p (home p V) (upd Z a T) e W') := Lib.hid fun a1 n ha1 hn W' e1 e2 e3 e4 e he => by
    subst hn
    have hr2 : OffRow W (.slice (some ⟨b, off, none⟩) (g :: T).length cap) (g :: T) := by rw [show (g :: T).length = T.length + 1 from rfl, ← hv]; exact hr
    have hd := Qu.OffRow.drop (n := 1) (a1 := a1) hr2 (by simp) (ha1.imp (fun e => by rw [e]; simp [addr_add]) id)
    have hd2 : OffRow W (.slice a1 T.length (cap - 1)) T := hd
    have hw1 : Wrote (fun k => (V a).ownBlock = some k) W (fun k => (Value.slice a1 T.length (cap - 1)).ownBlock = some k) W := (Wrote.refl _ _).same fun k hk => by
      rw [hv]
      rcases ha1 with rfl | ⟨_, rfl⟩
      · exact hk
      · exact hk
    obtain ⟨k1, k2⟩ := h1.put ha hd2 hw1
    have hbs : Below (W.setCell ⟨p, a, none⟩ (.slice a1 T.length (cap - 1))).heap.size (W.setCell ⟨p, a, none⟩ (.slice a1 T.length (cap - 1))) W' := below_same e1 e2 e3 e4
    exact Sw.step hl hb0 he (k1.below hbs) (k2.trans (Wrote.of_below hbs))
  have hp := h1.plt
  rw [hv] at c0
  unfold maxLen at g2
  have i0 : (0 : Int) ≤ (a : Int) := by omega
  have i2 : (a : Int) < 32 := by omega
  have hpb : b ≠ p := fun e => h1.o1 a ha (by rw [hv, ← e]; rfl)
  clear h1 hl hb0 hr hv g3 g4 hz hn
  generalize T.length = t at *
  have t1 : (1 : Int) ≤ (t : Int) + 1 := by omega
  have t0 : (0 : Int) < (t : Int) + 1 := by omega
  have t2 : (((t : Nat) : Int) + 1 == 0) = false := by rw [beq_eq_false_iff_ne]; omega
  by_cases hc1 : cap = 1
  · obtain rfl : t = 0 := by omega
    subst hc1
    go_enter Try.func40, Try.ntmps40
    go_wp2_with fail
    with_reducible refine Calls.mono (cp) ?_
    rintro e w2 ⟨rfl, rfl⟩
    clear cp
    go_wp2_with fail
    go_region
    all_goals
      go_wp2_with fail
      go_ret2
      exact key.out (some ⟨b, off, none⟩) 0 (.inr ⟨by trivial, by trivial⟩) rfl _ (by rfl) (by rfl) (by rfl) (by rfl) _ rfl
  · go_enter Try.func40, Try.ntmps40
    go_wp2_with fail
    with_reducible refine Calls.mono (cp) ?_
    rintro e w2 ⟨rfl, rfl⟩
    clear cp
    go_wp2_with fail
    go_region
    all_goals
      go_wp2_with fail
      go_ret2
      exact key.out (some ⟨b, off + 1, none⟩) t (.inl rfl) rfl _ (by rfl) (by rfl) (by rfl) (by rfl) _ rfl
set_option maxRecDepth 100000 in
theorem del_no (h : Sw W0 W p H Z) (g : Int) (hno : ∀ j, j < 32 → g ∉ Z j) : Calls Try.prog 42 #[.pointer (some ⟨p, 0, none⟩), .int .i64 g] W (Still (.bool false) W) := by
  obtain ⟨V, h1, _⟩ := h
  have cs := seek_no h1 g hno
  clear h1 hno
  go_enter Try.func42, Try.ntmps42
  go_wp2_with fail
  with_reducible refine Calls.mono (cs) ?_
  rintro e w2 ⟨rfl, rfl⟩
  clear cs
  go_wp2_with fail
  go_ret
  exact ⟨rfl, rfl⟩
set_option maxRecDepth 100000 in
set_option maxHeartbeats 2000000 in
theorem del_yes (h : Sw W0 W p H Z) (g : Int) {a : Nat} {A B : List Int} (hat : At Z g a A B) (hs : (Z a).length ≤ 1000000) : Calls Try.prog 42 #[.pointer (some ⟨p, 0, none⟩), .int .i64 g] W (Step (.bool true) W0 W p H (upd Z a (A ++ B))) := by
  obtain ⟨V, h1, hl, hb0, rfl⟩ := h
  have ha := hat.a32
  have cs := seek_yes h1 g hat
  obtain ⟨c0, f0⟩ := h1.cell ha
  have hA : A.length ≤ 1000000 := by have := hat.row; rw [this] at hs; simp at hs; omega
  have cd : Hid (∀ w, w.heap = W.heap → w.os = W.os → w.tape = W.tape → w.output = W.output → Calls Try.prog 75 #[V a, .int .i64 A.length, .int .i64 ((A.length : Int) + 1)] w fun e w2 => ∃ s n c, e = .returned (.slice s n c) ∧ w2.cell? ⟨p, a, none⟩ = some (V a) ∧ w2.frozen? ⟨p, a, none⟩ = false ∧ Hid (∀ W', W'.heap = (w2.setCell ⟨p, a, none⟩ (.slice s n c)).heap → W'.os = w2.os → W'.tape = w2.tape → W'.output = w2.output → ∀ e, e = .returned (.bool true) → Step (.bool true) W0 W p (home p V) (upd Z a (A ++ B)) e W')) := Lib.hid fun w e1 e2 e3 e4 => by
    have hb := below_same e1 e2 e3 e4
    have h2 := h1.below hb
    have hr := h2.row a ha
    rw [hat.row] at hr
    refine (delete_any hr (by rw [← hat.row]; exact hs)).mono fun e w2 ⟨v', q1, q2, q3, q4⟩ => ?_
    obtain ⟨s, c, rfl⟩ := q2.slice
    obtain ⟨X, hX, x1, x2⟩ := h2.head
    have hd := (q3.block p (block_lt hX) (h2.o1 a ha)).trans hX
    obtain ⟨k1, k2⟩ := h2.put ha q2 q3
    refine ⟨s, _, c, q1, cell_of hd (x2 a ha), frozen_of_row w2 p a _ _ hd, Lib.hid fun W' d1 d2 d3 d4 e he => ?_⟩
    have hbs := below_same (a := w2.setCell ⟨p, a, none⟩ (.slice s (A ++ B).length c)) d1 d2 d3 d4
    exact Sw.step hl hb0 he (k1.below hbs) ((Wrote.of_below hb).trans (k2.trans (Wrote.of_below hbs)))
  have hp := h1.plt
  obtain ⟨sv, cv, hv⟩ := (h1.row a ha).slice
  rw [hv] at c0 cd
  clear h1 hl hb0 hat hs hv
  have i0 : (0 : Int) ≤ (a : Int) := by omega
  have i2 : (a : Int) < 32 := by omega
  have l0 : (0 : Int) ≤ (A.length : Int) := by omega
  have l2 : (A.length : Int) ≤ 1000000 := by omega
  generalize A.length = l at *
  generalize (Z a).length = n0 at *
  have q5 : IntKind.i64.wrap ((l : Int) + 1) = (l : Int) + 1 := IntWalk.i64_in _ ⟨by omega, by omega⟩
  go_enter Try.func42, Try.ntmps42
  go_wp2_with fail
  with_reducible refine Calls.mono (cs) ?_
  rintro e w2 ⟨rfl, rfl⟩
  clear cs
  go_wp2_with fail
  go_region_with (go_at_call 75; ((refine Calls.mono (cd.out _ (by rfl) (by rfl) (by rfl) (by rfl)) ?_); rintro e w2 ⟨s, n, c, rfl, c1, f1, hfin⟩))
  all_goals
    go_wp2_with fail
    go_ret
    exact hfin.out _ (by rfl) (by rfl) (by rfl) (by rfl) _ rfl
set_option maxRecDepth 100000 in
theorem all_in (h : Sw W0 W p H Z) {a : Nat} (ha : a < 32) (hs : (Z a).length ≤ 1000000) : Calls Try.prog 46 #[.pointer (some ⟨p, 0, none⟩), .int .i64 a] W fun e W' => ∃ v', e = .returned v' ∧ Below W.heap.size W W' ∧ Ints W' (fun k => W.heap.size ≤ k) v' (Z a) := by
  obtain ⟨V, h1, _⟩ := h
  have cp := place_in a ha W
  have c0 := (h1.cell ha).1
  have cc : Calls Try.prog 70 #[V a] W fun e W' => ∃ s n c, e = .returned (.slice s n c) ∧ Hid (Below W.heap.size W W' ∧ Ints W' (fun k => W.heap.size ≤ k) (.slice s n c) (Z a)) := by
    have hi := h1.ints ha
    obtain ⟨sp, cap, e, hm, hc⟩ := hi
    rw [e]
    cases sp with
    | none =>
      have hz : Z a = [] := by
        cases hza : Z a with
        | nil => rfl
        | cons x r => rw [hza] at hc; obtain ⟨b, off, e, _⟩ := hc 0 (by simp); cases e
      rw [hz]
      exact (Try.slices_Clone_int_nil _ _ W).mono fun e w' ⟨g1, g2⟩ => by subst g2; exact ⟨_, _, _, g1, Lib.hid ⟨Below.refl _ _, ints_nil _ _⟩⟩
    | some ad =>
      rcases Nat.eq_zero_or_pos (Z a).length with h0 | h0
      · have hz : Z a = [] := List.eq_nil_of_length_eq_zero h0
        rw [hz]
        refine (Try.slices_Clone_int_zero ad cap W).mono fun e w' ⟨v', h1, h2, _, h4⟩ => ?_
        obtain ⟨s, c, rfl⟩ := own_slice h2
        exact ⟨s, _, c, h1, Lib.hid ⟨h4, (ints_of_owns (zs := []) h2).wider (fun k hk _ => (h2.lt k hk).1)⟩⟩
      · obtain ⟨b, off, e2, _⟩ := hc 0 h0
        cases e2
        refine (Try.slices_Clone_int b off (Z a).length cap (Z a) W (Nat.le_refl _) (by omega) (fun j hj => ?_)).mono fun e w' ⟨v', h1, h2, _, h4⟩ => ?_
        · obtain ⟨b2, off2, e2, _, _, h5⟩ := hc j hj
          cases e2
          exact h5
        · rw [List.take_of_length_le (Nat.le_refl _)] at h2
          obtain ⟨s, c, rfl⟩ := own_slice h2
          exact ⟨s, _, c, h1, Lib.hid ⟨h4, (ints_of_owns h2).wider (fun k hk _ => (h2.lt k hk).1)⟩⟩
  obtain ⟨sv, cv, hv⟩ := (h1.row a ha).slice
  rw [hv] at c0 cc
  clear h1 hv
  have i0 : (0 : Int) ≤ (a : Int) := by omega
  have i2 : (a : Int) < 32 := by omega
  go_enter Try.func46, Try.ntmps46
  go_wp2_with fail
  with_reducible refine Calls.mono (cp) ?_
  rintro e w2 ⟨rfl, rfl⟩
  clear cp
  go_wp2_with fail
  with_reducible refine Calls.mono cc ?_
  rintro e w2 ⟨s, n, c, rfl, hfin⟩
  clear cc
  go_wp2_with fail
  go_ret
  exact ⟨_, rfl, hfin.out⟩
set_option maxRecDepth 100000 in
theorem index_at (X : Array Value) (k : Nat) (hk : k < 32) (v : Value) (hX : X[k]? = some v) (w : World) : (Instr.index 63 (.agg X) (.int .i64 k)).run Try.prog w = .ok v w := by
  have hs : (sizeOf 26).run Try.prog w = .ok 1 w := by rfl
  simp [Instr.index, run_underlying Try.underlying63, asIntOf, hk, hs, part, hX]
/-- How many wait at the first k places. -/
def sumZ (Z : Nat → List Int) : Nat → Nat
  | 0 => 0
  | k + 1 => sumZ Z k + (Z k).length
set_option maxRecDepth 100000 in
set_option maxHeartbeats 1000000 in
theorem len_any (h : Sw W0 W p H Z) (hs : ∀ k, k ≤ 32 → sumZ Z k ≤ 1000000) : Calls Try.prog 44 #[.pointer (some ⟨p, 0, none⟩)] W (Still (.int .i64 (sumZ Z 32)) W) := by
  obtain ⟨V, h1, _⟩ := h
  obtain ⟨X, hX, x1, x2⟩ := h1.head
  have hidx : Hid (∀ k, k < 32 → ∃ s c, V k = .slice s (Z k).length c ∧ ∀ w, (Instr.index 63 (.agg X) (.int .i64 k)).run Try.prog w = .ok (V k) w) := Lib.hid fun k hk => by
    obtain ⟨s, c, e⟩ := (h1.row k hk).slice
    exact ⟨s, c, e, fun w => index_at X k hk _ (x2 k hk) w⟩
  replace hs := Lib.hid hs
  have hinf : (Try.prog.info? 63).map (·.size) = some X.size := by rw [x1]; kernel_rfl
  clear h1 x2 x1
  go_enter Try.func44, Try.ntmps44
  go_wp2_with (with_reducible refine wpList_load_row rfl 63 _ rfl p rfl _ X _ _ hX Try.underlying63 rfl hinf ?_)
  go_loopw [3, 12] (fun u x wr => ∃ k : Nat, u = .int .i64 (sumZ Z k : Nat) ∧ x = .int .i64 k ∧ k ≤ 32 ∧ wr = W) (fun _ x _ => (32 - (RowKit.intOf x).toNat))
  case atStart => exact ⟨0, rfl, rfl, by omega, rfl⟩
  case round =>
    obtain ⟨k, rfl, rfl, k1, rfl⟩ := hrel
    by_cases hk : k < 32
    · have i2 : (k : Int) < 32 := by omega
      obtain ⟨s, c, e, hi⟩ := hidx.out k hk
      have h1 := hs.out k (by omega)
      have h2 := hs.out (k + 1) (by omega)
      have h3 : Hid (sumZ Z (k + 1) = sumZ Z k + (Z k).length) := Lib.hid rfl
      rw [h3.out] at h2
      rw [e] at hi
      clear e
      generalize (Z k).length = l at *
      generalize hsk : sumZ Z k = sk at *
      replace hsk := Lib.hid hsk
      go_wp2_with fail
      go_roundw
      case rel => exact ⟨k + 1, by rw [h3.out]; go_num, by go_num, by omega, by first | rfl | trivial⟩
      case measure => simp [RowKit.intOf]; omega
    · obtain rfl : k = 32 := by omega
      clear hidx hs hinf hX
      go_wp2_with fail
      go_ret
      exact ⟨rfl, rfl⟩
end Wt
end Go.Proofs.Ytmngaedcckjfoab
