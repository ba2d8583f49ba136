/- Who is picked: the places where Pick of package sched seeks, one by one. -/
import Derived.Test.YtpclacaiabbmjaaSchedMore
import Derived.StillTailTactics
import Derived.Deep.RegionHeld3
import Derived.Deep.RegionWith
namespace Go.Proofs.Ytpclacaiabbmjaa
open Go.RowKit Go.Lib Fx Ho Gr
set_option linter.unusedVariables false
namespace Sd
variable {w w' W W0 : World} {p q : Nat} {rv qv : Value} {A : List Nat} {R : List Rg} {C : List Int} {H H' : Home}
/-- What Pick hands on: the Sched, the P, the tick, the victim. -/
abbrev pk (p : Nat) (i tick victim : Int) : Array Value := #[.pointer (some ⟨p, 0, none⟩), .int .i64 i, .int .i64 tick, .int .i64 victim]
theorem pk_cells {w : World} {b p : Nat} {i t v : Int} (h : w.heap[b]? = some (.cells (pk p i t v) 86 (0, 0))) : w.cell? ⟨b, 0, none⟩ = some (.pointer (some ⟨p, 0, none⟩)) ∧ w.cell? ⟨b, 1, none⟩ = some (.int .i64 i) ∧ w.cell? ⟨b, 2, none⟩ = some (.int .i64 t) ∧ w.cell? ⟨b, 3, none⟩ = some (.int .i64 v) := by
  unfold World.cell?; rw [h]; exact ⟨rfl, rfl, rfl, rfl⟩
theorem Step.from {W1 : World} {R' : List Rg} {C' : List Int} {r : Value} {e : Ending} (hb : Below W.heap.size W W1) (h : Step r W0 W1 p H R' C' e w') : Step r W0 W p H R' C' e w' := by
  obtain ⟨he, H', hw, hs⟩ := h
  have hw0 : Wrote H W H W1 := Wrote.of_below hb
  exact ⟨he, H', hw0.trans hw, hs⟩
theorem set_self {R : List Rg} {i : Nat} (hi : i < R.length) : R.set i (R.getD i rg0) = R := by
  rw [List.getD_eq_getElem?_getD, List.getElem?_eq_getElem hi]
  exact List.set_getElem_self hi
set_option maxRecDepth 100000 in
theorem own_any (h : Ss W0 W p H R C) {i : Nat} (hi : i < R.length) (t v : Int) : Calls Try.prog 64 #[.agg (pk p i t v)] W (Step (getV (rGet (R.getD i rg0)).1) W0 W p H (R.set i (rGet (R.getD i rg0)).2) C) := by
  have hb1 := below_alloc (Below.refl _ W) (.cells (pk p i t v) 86)
  obtain ⟨x0, x1, x2, x3⟩ := pk_cells (heap_alloc_new W (.cells (pk p i t v) 86))
  obtain ⟨q, rv, qv, A, h1, hl, hb0, rfl⟩ := h
  have h2 := h1.below hb1
  have cr := ring_in h2 hi
  have cg : Hid (∀ n, Calls Try.prog 71 #[.pointer (some ⟨A.getD i 0, 0, none⟩)] ((W.alloc (.cells (pk p i t v) 86)).drewN n) (Step (getV (rGet (R.getD i rg0)).1) W0 W p (home p q rv qv A) (R.set i (rGet (R.getD i rg0)).2) C)) := Lib.hid fun n => by
    have h3 := h2.draws n
    have hb3 := below_drewN hb1 n
    refine (rget_any _ _ (h3.rg i hi)).mono fun e w3 ⟨g1, g2, g3⟩ => ?_
    obtain ⟨k1, k2⟩ := h3.ring hi _ g2 g3
    exact Ss.step hl hb0 g1 k1 ((Wrote.of_below hb3).trans k2)
  have hv : ∃ a b, getV (rGet (R.getD i rg0)).1 = .tuple #[.int .i64 a, .bool b] := by
    cases (rGet (R.getD i rg0)).1 with
    | none => exact ⟨0, false, rfl⟩
    | some g => exact ⟨g, true, rfl⟩
  obtain ⟨a, b, hv⟩ := hv
  rw [hv] at cg ⊢
  clear h1 h2 hl hb0 hb1 hv
  generalize A.getD i 0 = ad at *
  generalize hF : Step (.tuple #[.int .i64 a, .bool b]) W0 W p (home p q rv qv A) (R.set i (rGet (R.getD i rg0)).2) C = F at *
  have hF2 : Hid (∀ e w', F e w' → ∃ H', Wrote (home p q rv qv A) W H' w' ∧ Ss W0 w' p H' (R.set i (rGet (R.getD i rg0)).2) C ∧ e = .returned (.tuple #[.int .i64 a, .bool b])) := Lib.hid fun e w' hf => by rw [← hF] at hf; obtain ⟨h1, H', h2, h3⟩ := hf; exact ⟨H', h2, h3, h1⟩
  have hF3 : Hid (∀ w', F (.returned (.tuple #[.int .i64 a, .bool b])) w' → F (.returned (.tuple #[.int .i64 a, .bool b])) w') := Lib.hid fun _ h => h
  replace hF := Lib.hid hF
  go_enter Try.func64, Try.ntmps64
  go_wp2_with fail
  with_reducible refine Calls.mono cr ?_
  rintro e w2 ⟨rfl, n, rfl⟩
  have cg := cg.out n
  clear cr
  go_wp2_with fail
  with_reducible refine Calls.mono cg ?_
  rintro e w3 hf
  obtain ⟨H', k1, k2, rfl⟩ := hF2.out _ _ hf
  replace hf := Lib.hid hf
  clear cg k1 k2 hF2
  go_wp2_with fail
  exact hf.out
/-- The row without its first one, as the law slices it. -/
theorem tail_ints {w : World} {S : Home} {b off cap : Nat} {g : Int} {T : List Int} (h : Ints w S (.slice (some ⟨b, off, none⟩) (T.length + 1) cap) (g :: T)) (hc : T.length + 1 ≤ cap) : Ints w S (.slice (some ⟨b, off + 1, none⟩) T.length (cap - 1)) T := by
  obtain ⟨sp, c, e, hm, hcell⟩ := h
  simp at e
  obtain ⟨rfl, rfl⟩ := e
  refine ⟨_, _, rfl, by simp at hm; omega, fun i hi => ?_⟩
  obtain ⟨b2, o2, e2, h1, h2, h3⟩ := hcell (i + 1) (by simp; omega)
  cases e2
  refine ⟨b, off + 1, rfl, h1, h2, ?_⟩
  rw [show off + 1 + i = off + (i + 1) by omega, h3]; rfl
/-- So many of the common queue go to P i, which goes on with the first. -/
def setT (R : List Rg) (i : Nat) (T : List Int) : List Rg := if T = [] then R else R.set i (none, T)
def takeS (R : List Rg) (C : List Int) (i m : Nat) : Option Int × List Rg × List Int :=
  match C.take (qN C R.length m) with
  | [] => (none, R, C)
  | g :: T => (some g, setT R i T, C.drop (qN C R.length m))
theorem setT_len (R : List Rg) (i : Nat) (T : List Int) : (setT R i T).length = R.length := by unfold setT; split <;> simp
theorem setT_get {R : List Rg} {i : Nat} {T : List Int} (hi : i < R.length) (h0 : T = [] → R.getD i rg0 = rg0) : (setT R i T).getD i rg0 = (none, T) := by
  unfold setT
  by_cases e : T = []
  · rw [if_pos e, h0 e, e]; rfl
  · rw [if_neg e, List.getD_eq_getElem?_getD, List.getElem?_set_self hi]; rfl
theorem setT_more {R : List Rg} {i : Nat} {T : List Int} {x : Int} (hi : i < R.length) : (setT R i T).set i (none, T ++ [x]) = setT R i (T ++ [x]) := by
  unfold setT
  rw [if_neg (by simp : T ++ [x] ≠ [])]
  by_cases e : T = []
  · rw [if_pos e]
  · rw [if_neg e, List.set_set]
set_option maxRecDepth 100000 in
set_option maxHeartbeats 2000000 in
theorem take_any (h : Ss W0 W p H R C) {i : Nat} (hi : i < R.length) (t v : Int) {m : Nat} (hm : m ≤ 64) (hc : m ≤ 1 ∨ R.getD i rg0 = rg0) (hn : R.length ≤ 64) (hs : C.length ≤ 900000) : Calls Try.prog 104 #[.agg (pk p i t v), .int .i64 m] W (Step (getV (takeS R C i m).1) W0 W p H (takeS R C i m).2.1 (takeS R C i m).2.2) := by
  have hb1 := below_alloc (Below.refl _ W) (.cells (pk p i t v) 86)
  have hk := heap_alloc_new W (.cells (pk p i t v) 86)
  obtain ⟨x0, x1, x2, x3⟩ := pk_cells hk
  have hHlt : ∀ k, H k → k < W.heap.size := fun k hk => h.lt hk
  obtain ⟨q, rv, qv, A, h1, hl, hb0, rfl⟩ := h
  have h2 := h1.below hb1
  obtain ⟨c0, c1⟩ := h2.cs
  obtain ⟨sp, cap, rfl⟩ := h1.row.slice
  obtain ⟨N, hN⟩ : ∃ N, qN C R.length m = N := ⟨_, rfl⟩
  have hNle : N ≤ m ∧ N ≤ C.length ∧ N ≤ 64 := by rw [← hN]; unfold qN; omega
  have hTl : (C.take N).length = N := by rw [List.length_take]; omega
  have cg : Calls Try.prog 129 #[.pointer (some ⟨q, 0, none⟩), .int .i64 R.length, .int .i64 m] (W.alloc (.cells (pk p i t v) 86)).drew fun e w' => ∃ r H2, e = .returned r ∧ Ints w' (fun k => r.ownBlock = some k) r (C.take N) ∧ (∃ sp c, r = .slice sp N c ∧ N ≤ c) ∧ Hid (Off (fun k => r.ownBlock = some k ∨ k = W.heap.size) H2) ∧ Hid (Wrote (home p q (.slice sp R.length cap) qv A) W H2 w') ∧ Hid (Ss W0 w' p H2 R (C.drop N)) ∧ Hid (w'.heap[W.heap.size]? = some (.cells (pk p i t v) 86 (0, 0))) := by
    have hb3 := below_drewN hb1 1
    have h3 := h1.below hb3
    refine (Qu.get_gen _ h3.com (q := R.length) (m := m) (n := N) (by rw [if_neg (by omega)]) (by rw [if_neg (by omega)]) (by omega) (by omega) (by omega) (by omega) (by rw [← hN]; rfl)).mono fun e w' ⟨r, v', g1, g2, g3, g4, g5, g6⟩ => ?_
    obtain ⟨k1, k2⟩ := h3.queue g2 g3
    have hi0 := ints_of_owns g4
    refine ⟨r, home p q (.slice sp R.length cap) v' A, g1, hi0, ?_, Lib.hid fun k hk1 hk2 => ?_, Lib.hid ((Wrote.of_below hb3).trans k2), Lib.hid ⟨_, _, _, _, k1, k2.low hl (Nat.le_trans hb0.size hb3.size), hb0.trans (Rw.below_of_wrote ((Wrote.of_below hb3).trans k2) hl hb0.size), rfl⟩, Lib.hid ?_⟩
    · rcases g4.2 with ⟨rfl, h0⟩ | ⟨g, c, cur, rfl, h0, _, h5, _⟩
      · exact ⟨none, 0, by rw [h0], by omega⟩
      · exact ⟨_, c, rfl, h5⟩
    · have h8 : W.heap.size < (World.drewN (W.alloc (.cells (pk p i t v) 86)) 1).heap.size := by show W.heap.size < (W.heap.push _).size; rw [Array.size_push]; omega
      have h7 : W.heap.size ≤ k := by
        rcases hk1 with hk1 | hk1
        · have := (g4.lt k hk1).1; omega
        · omega
      have h9 : k < W.heap.size := by
        refine hHlt k ?_
        rcases hk2 with e | e | e | e
        · exact Or.inl e
        · exact Or.inr (Or.inl e)
        · exact Or.inr (Or.inr (Or.inl e))
        · exact Or.inr (Or.inr (Or.inr (e.imp id (fun e => g6 k e))))
      omega
    · have hbx : (World.drewN (W.alloc (.cells (pk p i t v) 86)) 1).heap[W.heap.size]? = some (.cells (pk p i t v) 86 (0, 0)) := hk
      exact (g2.block _ (block_lt hbx) (fun e => by have := hHlt _ (Or.inr (Or.inr (Or.inr e))); omega)).trans hbx
  have hret : Hid (∀ g T, C.take N = g :: T → takeS R C i m = (some g, setT R i T, C.drop N)) := Lib.hid fun g T e => by unfold takeS; rw [hN, e]
  have hret0 : Hid (C.take N = [] → takeS R C i m = (none, R, C) ∧ C.drop N = C) := Lib.hid fun e => by
    have h0 : N = 0 := by rw [← hTl, e]; rfl
    exact ⟨by unfold takeS; rw [hN, e], by rw [h0]; rfl⟩
  have hc2 : Hid (∀ g T, C.take N = g :: T → T = [] ∨ R.getD i rg0 = rg0) := Lib.hid fun g T e => by
    rcases hc with hc | hc
    · left
      rw [e] at hTl
      exact List.eq_nil_of_length_eq_zero (by simp at hTl; omega)
    · exact .inr hc
  have hCl : Hid ((C.drop N).length ≤ 900000) := Lib.hid (by rw [List.length_drop]; omega)
  have hHid := Lib.hid (And.intro hHlt hTl)
  clear h1 h2 hl hb0 hb1 hk hc hHlt hTl
  generalize takeS R C i m = res at *
  generalize C.take N = L at *
  generalize C.drop N = C2 at *
  generalize hH : home p q (.slice sp R.length cap) qv A = H at *
  go_enter Try.func104, Try.ntmps104
  go_wp2_with fail
  generalize W.alloc (.cells (pk p i t v) 86) = w1 at *
  go_still_tail 12, (by kernel_rfl)
  change wpList _ _ _ _ _ w1.drew
  go_wp2_with fail
  with_reducible refine Calls.mono cg ?_
  rintro e w2 ⟨r, H2, rfl, hr, ⟨sp2, cp2, rfl, hcp⟩, hoff, hw, hss, hbx⟩
  clear cg x0 x1 x2 x3 c0 c1
  rcases L with _ | ⟨g, T⟩
  · obtain ⟨e1, e2⟩ := hret0.out rfl
    subst e1 e2
    obtain rfl : N = 0 := by obtain ⟨a, b, c, _⟩ := hr; cases c; rfl
    go_wp2_with fail
    go_ret2
    exact ⟨rfl, H2, hw.out, hss.out⟩
  · have e1 := hret.out g T rfl
    subst e1
    obtain ⟨k, rfl⟩ : ∃ k, N = k + 1 := ⟨T.length, by have := hHid.out.2; simp at this; omega⟩
    have hTk : T.length = k := by have := hHid.out.2; simp at this; omega
    obtain ⟨b, off, rfl, hSb, hbw, hg0⟩ : ∃ b off, sp2 = some ⟨b, off, none⟩ ∧ (Value.slice sp2 (k + 1) cp2).ownBlock = some b ∧ b < w2.heap.size ∧ w2.cell? ⟨b, off, none⟩ = some (.int .i64 g) := by
      obtain ⟨sp', c', e, _, hcell⟩ := hr
      cases e
      obtain ⟨b, off, e2, h1, h2, h3⟩ := hcell 0 (by simp)
      exact ⟨b, off, e2, h1, h2, h3⟩
    have hT := hTk ▸ hr
    have hr2 : Hid (Ints w2 (fun k_1 => k_1 = b) (.slice (some ⟨b, off, none⟩) (T.length + 1) cp2) (g :: T)) := Lib.hid (by rw [hTk]; exact hr.wider (fun k' hk' _ => (Option.some.inj hk').symm))
    have hoff2 : Hid (Off (fun k_1 => k_1 = b ∨ k_1 = W.heap.size) H2) := Lib.hid fun k' hk' => hoff.out k' (hk'.imp (fun e => by rw [e]; rfl) id)
    have hst : Hid (Ss W0 w2 p H2 (setT R i (T.take 0)) C2) := hss
    have hrg : T = [] ∨ R.getD i rg0 = rg0 := hc2.out g T rfl
    have hdone : Hid (T.take k = T) := Lib.hid (by rw [← hTk]; exact List.take_length)
    have hHs := Lib.hid hHid.out.1
    clear hret hret0 hc2 hoff hss hT hHid
    have hcpm : cp2 ≤ 9223372036854775807 ∨ True := .inr trivial
    clear hcpm
    have k64 : k + 1 ≤ 64 := hNle.2.2
    clear hN hNle hm hs hH
    by_cases hc1 : cp2 = 1
    · obtain rfl : k = 0 := by omega
      obtain rfl : T = [] := List.eq_nil_of_length_eq_zero hTk
      subst hc1
      clear hr hrg
      replace hTk := Lib.hid hTk
      go_wp2_with fail
      go_loopw [28] (fun x wr => x = .int .i64 0 ∧ wr = w2) (fun x _ => 0)
      case atStart => exact ⟨rfl, rfl⟩
      case round =>
        obtain ⟨rfl, rfl⟩ := hrel
        go_wp2_with fail
        go_ret2
        exact ⟨rfl, H2, hw.out, hst.out⟩
    · have hcl : Hid (∀ wr, Ints wr (fun k_1 => k_1 = b) (.slice (some ⟨b, off, none⟩) (T.length + 1) cp2) (g :: T) → wr.cell? ⟨b, off, none⟩ = some (.int .i64 g) ∧ ∀ j, j < k → wr.cell? ⟨b, off + 1 + j, none⟩ = some (.int .i64 (T.getD j 0))) := Lib.hid fun wr h => by
        refine ⟨?_, fun j hj => ?_⟩
        · obtain ⟨sp', c', e, _, hcell⟩ := h
          cases e
          obtain ⟨b, off, e2, h1, h2, h3⟩ := hcell 0 (by simp)
          cases e2; exact h3
        · obtain ⟨sp', c', e, _, hcell⟩ := tail_ints h (by omega)
          cases e
          obtain ⟨b, off, e2, h1, h2, h3⟩ := hcell j (by omega)
          cases e2; exact h3
      have d1 : (1 : Int) ≤ (k + 1 : Nat) := by omega
      have hcp3 : ¬ cp2 = 0 := by omega
      have d2 : (((k : Nat) : Int) + 1 == 0) = false := by rw [beq_eq_false_iff_ne]; omega
      clear hr
      replace hTk := Lib.hid hTk
      replace hrg := Lib.hid hrg
      go_wp2_with fail
      go_loopw [28] (fun x wr => ∃ (j : Nat) (H3 : Home), x = .int .i64 j ∧ j ≤ k ∧ Hid (Ss W0 wr p H3 (setT R i (T.take j)) C2) ∧ Hid (Wrote H W H3 wr) ∧ Hid (wr.heap[W.heap.size]? = some (.cells (pk p i t v) 86 (0, 0))) ∧ Hid (Ints wr (fun k_1 => k_1 = b) (.slice (some ⟨b, off, none⟩) (T.length + 1) cp2) (g :: T)) ∧ Hid (Off (fun k_1 => k_1 = b ∨ k_1 = W.heap.size) H3)) (fun x _ => (k - (RowKit.intOf x).toNat))
      case atStart => exact ⟨0, H2, rfl, by omega, hst, hw, hbx, hr2, hoff2⟩
      case round =>
        clear hst hw hbx hr2 hoff2 hg0 hbw
        obtain ⟨j, H3, rfl, j1, hst, hw, hbx, hr2, hoff2⟩ := hrel
        obtain ⟨e0, e1⟩ := hcl.out wr hr2.out
        by_cases hj : j < k
        · have i2 : (j : Int) < (k : Int) := by omega
          have hj0 := e1 j hj
          obtain ⟨x0, x1, x2, x3⟩ := pk_cells hbx.out
          have hrg0 : R.getD i rg0 = rg0 := hrg.out.elim (fun e => by rw [e] at hTk; have := hTk.out; simp at this; omega) id
          have hset := setT_get (T := T.take j) hi (fun _ => hrg0)
          have cr := ready_in hst.out (i := i) (by rw [setT_len]; exact hi) (T.getD j 0) false hCl.out
          rw [hset] at cr
          have hput : rPut (none, T.take j) (T.getD j 0) false = ((none, T.take j ++ [T.getD j 0]), []) := by
            show rRow none (T.take j) (T.getD j 0) = _
            unfold rRow
            rw [if_pos (by rw [List.length_take]; omega)]
          rw [hput, setT_more hi, List.append_nil] at cr
          have htk : T.take j ++ [T.getD j 0] = T.take (j + 1) := by
            rw [List.take_succ_eq_append_getElem (by have := hTk.out; omega), List.getD_eq_getElem?_getD, List.getElem?_eq_getElem (by have := hTk.out; omega)]; rfl
          simp only [htk] at cr
          have hnx : Hid (∀ w5 H5, Wrote H3 wr H5 w5 → Hid (Wrote H W H5 w5) ∧ Hid (w5.heap[W.heap.size]? = some (.cells (pk p i t v) 86 (0, 0))) ∧ Hid (Ints w5 (fun k_1 => k_1 = b) (.slice (some ⟨b, off, none⟩) (T.length + 1) cp2) (g :: T)) ∧ Hid (Off (fun k_1 => k_1 = b ∨ k_1 = W.heap.size) H5)) := Lib.hid fun w5 H5 hw5 => by
            have hbl : b < wr.heap.size := by
              obtain ⟨sp', c', e, _, hcell⟩ := hr2.out
              cases e
              obtain ⟨b', off', e2, h1, h2, h3⟩ := hcell 0 (by simp)
              cases e2; exact h2
            refine ⟨Lib.hid (hw.out.trans hw5), Lib.hid ?_, Lib.hid (hr2.out.wrote hw5 (fun k' hk' => hoff2.out k' (.inl hk'))), Lib.hid (hw5.off hoff2.out (fun k' hk' => by rcases hk' with rfl | rfl; exact hbl; exact block_lt hbx.out))⟩
            exact (hw5.block _ (block_lt hbx.out) (fun e => hoff2.out _ (.inr rfl) e)).trans hbx.out
          clear hst hw hbx hr2 hoff2 e0 e1 hcl hset hput htk hrg0
          generalize T.getD j 0 = x at *
          go_wp2_with fail
          with_reducible refine Calls.mono cr ?_
          rintro e w5 ⟨rfl, H5, hw5, hs5⟩
          obtain ⟨n1, n2, n3, n4⟩ := hnx.out w5 H5 hw5
          replace hs5 := Lib.hid hs5
          clear cr hnx hw5 x0 x1 x2 x3
          go_wp2_with fail
          go_roundw
          case rel => exact ⟨j + 1, H5, by go_num, by omega, hs5, n1, n2, n3, n4⟩
          case measure => simp [RowKit.intOf]; omega
        · obtain rfl : j = k := by omega
          have i2 : ¬ ((j : Int) < (j : Int)) := by omega
          rw [hdone.out] at hst
          clear e1 hcl
          go_wp2_with fail
          go_ret2
          exact ⟨rfl, H3, hw.out, hst.out⟩
end Sd
end Go.Proofs.Ytpclacaiabbmjaa
