/- Pick, Drop, Global of package sched; calls of none; the law's own told. -/
import Derived.Test.YtpclacaiabbmjaaSchedPick
import Derived.StillTailTactics
import Derived.Deep.RegionHeld3
import Derived.Deep.RegionWith
namespace Go.Proofs.Ytpclacaiabbmjaa
open Go.RowKit Go.Lib Fx Ho Gr
set_option linter.unusedVariables false
namespace Sd
variable {w w' W W0 : World} {p q : Nat} {rv qv : Value} {A : List Nat} {R : List Rg} {C : List Int} {H H' : Home}
theorem get_pair (o : Option Int) : ∃ a b, getV o = .tuple #[.int .i64 a, .bool b] := by
  cases o with
  | none => exact ⟨0, false, rfl⟩
  | some g => exact ⟨g, true, rfl⟩
/-- Every 61st tick the common queue is asked first. -/
def turnS (R : List Rg) (C : List Int) (i : Nat) (t : Int) : Option Int × List Rg × List Int := if t = 0 ∨ t.tmod 61 ≠ 0 then (none, R, C) else takeS R C i 1
set_option maxRecDepth 100000 in
set_option maxHeartbeats 1000000 in
theorem turn_any (h : Ss W0 W p H R C) {i : Nat} (hi : i < R.length) (t v : Int) (hn : R.length ≤ 64) (hs : C.length ≤ 900000) : Calls Try.prog 63 #[.agg (pk p i t v)] W (Step (getV (turnS R C i t).1) W0 W p H (turnS R C i t).2.1 (turnS R C i t).2.2) := by
  have hb1 := below_alloc (Below.refl _ W) (.cells (pk p i t v) 86)
  obtain ⟨x0, x1, x2, x3⟩ := pk_cells (heap_alloc_new W (.cells (pk p i t v) 86))
  have h2 := h.below hb1
  have ct : Calls Try.prog 104 #[.agg (pk p i t v), .int .i64 (1 : Nat)] (W.alloc (.cells (pk p i t v) 86)) (Step (getV (takeS R C i 1).1) W0 W p H (takeS R C i 1).2.1 (takeS R C i 1).2.2) := (take_any h2 hi t v (m := 1) (by omega) (.inl (Nat.le_refl _)) hn hs).mono fun e w' hf => hf.from hb1
  have h0 : Hid (∀ w1, w1 = W.alloc (.cells (pk p i t v) 86) → Step (.tuple #[.int .i64 0, .bool false]) W0 W p H R C (.returned (.tuple #[.int .i64 0, .bool false])) w1) := Lib.hid fun w1 e => by subst e; exact ⟨rfl, H, Wrote.of_below hb1, h2⟩
  have hload : (W.alloc (.cells (pk p i t v) 86)).heap[W.heap.size]? = some (.cells (pk p i t v) 86 (0, 0)) := heap_alloc_new _ _
  clear h h2 hb1
  by_cases h1 : t = 0 ∨ t.tmod 61 ≠ 0
  · have e : turnS R C i t = (none, R, C) := if_pos h1
    rw [e]
    show Calls _ _ _ _ (Step (.tuple #[.int .i64 0, .bool false]) W0 W p H R C)
    clear e ct
    by_cases h3 : t = 0
    · subst h3
      clear h1
      go_enter Try.func63, Try.ntmps63
      go_wp2_with fail
      exact bodyPost_ret (v := .tuple #[.int .i64 0, .bool false]) (by simp [results, Try.results63, go_sem]) rfl (h0.out _ rfl)
    · obtain ⟨m, hm⟩ : ∃ m, t.tmod 61 = m := ⟨_, rfl⟩
      have hm0 : m ≠ 0 := by rw [← hm]; exact h1.resolve_left h3
      have b1 : (t == 0) = false := by rw [beq_eq_false_iff_ne]; exact h3
      have b2 : (m == 0) = false := by rw [beq_eq_false_iff_ne]; exact hm0
      have b3 : (m != 0) = true := by simp [bne, b2]
      clear h1
      go_enter Try.func63, Try.ntmps63
      go_wp2_with fail
      exact bodyPost_ret (v := .tuple #[.int .i64 0, .bool false]) (by simp [results, Try.results63, go_sem]) rfl (h0.out _ rfl)
  · have e : turnS R C i t = takeS R C i 1 := if_neg h1
    rw [e]
    obtain ⟨a, b, hv⟩ := get_pair (takeS R C i 1).1
    rw [hv] at ct ⊢
    have t1 : (t == 0) = false := by rw [beq_eq_false_iff_ne]; exact fun e => h1 (.inl e)
    have t2 : t.tmod 61 = 0 := Decidable.byContradiction fun e => h1 (.inr e)
    have hv2 : Step (.tuple #[.int .i64 a, .bool b]) W0 W p H (takeS R C i 1).2.1 (takeS R C i 1).2.2 = Step (.tuple #[.int .i64 a, .bool b]) W0 W p H (takeS R C i 1).2.1 (takeS R C i 1).2.2 := rfl
    clear e hv h0 h1 hv2
    generalize (takeS R C i 1).2.1 = R1 at *
    generalize (takeS R C i 1).2.2 = C1 at *
    go_enter Try.func63, Try.ntmps63
    go_wp2_with fail
    with_reducible refine Calls.mono ct ?_
    rintro e w3 ⟨rfl, hf⟩
    replace hf := Lib.hid hf
    clear ct
    go_wp2_with fail
    go_ret2
    exact ⟨rfl, hf.out⟩
set_option maxRecDepth 100000 in
set_option maxHeartbeats 1000000 in
theorem shared_any (h : Ss W0 W p H R C) {i : Nat} (hi : i < R.length) (hr : R.getD i rg0 = rg0) (t v : Int) (hn : R.length ≤ 64) (hs : C.length ≤ 900000) : Calls Try.prog 65 #[.agg (pk p i t v)] W (Step (getV (takeS R C i 64).1) W0 W p H (takeS R C i 64).2.1 (takeS R C i 64).2.2) := by
  have hb1 := below_alloc (Below.refl _ W) (.cells (pk p i t v) 86)
  obtain ⟨x0, x1, x2, x3⟩ := pk_cells (heap_alloc_new W (.cells (pk p i t v) 86))
  have h2 := h.below hb1
  have ct : Calls Try.prog 104 #[.agg (pk p i t v), .int .i64 (64 : Nat)] (W.alloc (.cells (pk p i t v) 86)) (Step (getV (takeS R C i 64).1) W0 W p H (takeS R C i 64).2.1 (takeS R C i 64).2.2) := (take_any h2 hi t v (m := 64) (by omega) (.inr hr) hn hs).mono fun e w' hf => hf.from hb1
  obtain ⟨a, b, hv⟩ := get_pair (takeS R C i 64).1
  rw [hv] at ct ⊢
  clear h h2 hb1 hv hr
  generalize (takeS R C i 64).2.1 = R1 at *
  generalize (takeS R C i 64).2.2 = C1 at *
  go_enter Try.func65, Try.ntmps65
  go_wp2_with fail
  with_reducible refine Calls.mono ct ?_
  rintro e w3 ⟨rfl, hf⟩
  replace hf := Lib.hid hf
  clear ct
  go_wp2_with fail
  go_ret2
  exact ⟨rfl, hf.out⟩
/-- What the rings are once P i has stolen of v. -/
def stealR (R : List Rg) (i : Nat) (v : Int) : List Rg :=
  if 0 ≤ v ∧ v < (R.length : Int) ∧ v.toNat ≠ i then (R.set i (rSteal (R.getD i rg0) (R.getD v.toNat rg0)).1).set v.toNat (rSteal (R.getD i rg0) (R.getD v.toNat rg0)).2 else R
theorem stealR_len (R : List Rg) (i : Nat) (v : Int) : (stealR R i v).length = R.length := by unfold stealR; split <;> simp
theorem ring_ptr (h : IsS w p q rv qv A R C) {i : Nat} (hi : i < R.length) (v : Int) : ∃ vp, (∀ w', Below w.heap.size w w' → Calls Try.prog 59 #[.pointer (some ⟨p, 0, none⟩), .int .i64 v] w' (AnsB vp w')) ∧
    (∀ w', Below w.heap.size w w' → Calls Try.prog 105 #[.pointer (some ⟨A.getD i 0, 0, none⟩), vp] w' fun e w2 => ∃ n : Int, e = .returned (.int .i64 n) ∧ Wrote (home p q rv qv A) w' (home p q rv qv A) w2 ∧ IsS w2 p q rv qv A (stealR R i v) C) := by
  by_cases hv : v < 0 ∨ (R.length : Int) ≤ v
  · refine ⟨.pointer none, fun w' hb => ansb (ring_out (h.below hb) v hv), fun w' hb => ?_⟩
    rw [show stealR R i v = R from if_neg (by omega)]
    exact (Ri.steal_nil w').mono fun e w2 ⟨a, b⟩ => ⟨0, a, b ▸ Wrote.refl _ _, b ▸ h.below hb⟩
  · obtain ⟨k, rfl⟩ : ∃ k : Nat, v = (k : Int) := ⟨v.toNat, by omega⟩
    have hk : k < R.length := by omega
    refine ⟨_, fun w' hb => ansb (ring_in (h.below hb) hk), fun w' hb => ?_⟩
    by_cases hki : k = i
    · subst hki
      rw [show stealR R k (k : Int) = R from if_neg (by simp)]
      exact (Ri.steal_same w').mono fun e w2 ⟨a, b⟩ => ⟨0, a, b ▸ Wrote.refl _ _, b ▸ h.below hb⟩
    · have h2 := h.below hb
      have hne : A.getD i 0 ≠ A.getD k 0 := fun e => hki (h.one i k hi hk e).symm
      rw [show stealR R i (k : Int) = (R.set i (rSteal (R.getD i rg0) (R.getD k rg0)).1).set k (rSteal (R.getD i rg0) (R.getD k rg0)).2 from if_pos ⟨by omega, by omega, by simpa using hki⟩]
      refine (rsteal_any _ _ hne w' (h2.rg i hi) (h2.rg k hk)).mono fun e w2 ⟨n, a, b, c, d⟩ => ⟨n, a, ?_, ?_⟩
      · have hm : ∀ k', Ri.both (A.getD i 0) (A.getD k 0) k' → home p q rv qv A k' := fun k' hk' => .inr (.inr (.inl (hk'.elim (fun e => ⟨i, by rw [h.len]; exact hi, e.symm⟩) (fun e => ⟨k, by rw [h.len]; exact hk, e.symm⟩))))
        exact ⟨b.os, b.tape, b.output, b.size, fun k' hk' hn => b.block k' hk' (fun e => hn (hm k' e)), fun k' hk' => .inl hk'⟩
      · have o1 := h2.o2 i hi
        have o2 := h2.o2 k hk
        refine ⟨by rw [b.block p (block_lt h2.head) (fun e => e.elim (fun e => o1.1 e.symm) (fun e => o2.1 e.symm))]; exact h2.head, ?_, by simp [h.len], fun j hj => ?_, h2.com.wrote b (fun k' hk' e => e.elim (fun e => (h2.o3 k' hk').2.2 i hi e.symm) (fun e => (h2.o3 k' hk').2.2 k hk e.symm)), by simpa using h2.one, h2.o1, by simpa using h2.o2, by simpa using h2.o3⟩
        · simp only [List.length_set]
          exact h2.row.wrote b (fun k' hk' e => e.elim (fun e => o1.2 (by rw [← e]; exact hk')) (fun e => o2.2 (by rw [← e]; exact hk')))
        · simp only [List.length_set] at hj
          by_cases ek : j = k
          · subst ek
            rw [List.getD_eq_getElem?_getD (l := (R.set i _).set j _), List.getElem?_set_self (by simpa using hk)]; exact d
          · rw [List.getD_eq_getElem?_getD (l := (R.set i _).set k _), List.getElem?_set_ne (fun e => ek e.symm)]
            by_cases ei : j = i
            · subst ei
              rw [List.getElem?_set_self hi]; exact c
            · rw [List.getElem?_set_ne (fun e => ei e.symm), ← List.getD_eq_getElem?_getD]
              exact (h2.rg j hj).wrote b (fun e => e.elim (fun e => ei (h.one j i hj hi e)) (fun e => ek (h.one j k hj hk e)))
set_option maxRecDepth 100000 in
set_option maxHeartbeats 2000000 in
theorem stolen_any (h : Ss W0 W p H R C) {i : Nat} (hi : i < R.length) (t v : Int) : Calls Try.prog 66 #[.agg (pk p i t v)] W (Step (getV (rGet ((stealR R i v).getD i rg0)).1) W0 W p H ((stealR R i v).set i (rGet ((stealR R i v).getD i rg0)).2) C) := by
  have hb1 := below_alloc (Below.refl _ W) (.cells (pk p i t v) 86)
  have hHlt : ∀ k, H k → k < W.heap.size := fun k hk => h.lt hk
  have hload : (W.alloc (.cells (pk p i t v) 86)).heap[W.heap.size]? = some (.cells (pk p i t v) 86 (0, 0)) := heap_alloc_new _ _
  obtain ⟨q, rv, qv, A, h1, hl, hb0, rfl⟩ := h
  have h2 := h1.below hb1
  obtain ⟨vp, c2, c3⟩ := ring_ptr h2 hi v
  have cr : Hid (∀ w', Below (W.alloc (.cells (pk p i t v) 86)).heap.size (W.alloc (.cells (pk p i t v) 86)) w' → Calls Try.prog 59 #[.pointer (some ⟨p, 0, none⟩), .int .i64 i] w' (AnsB (.pointer (some ⟨A.getD i 0, 0, none⟩)) w')) := Lib.hid fun w' hb => ansb (ring_in (h2.below hb) hi)
  have cs : Hid (∀ w', Below (W.alloc (.cells (pk p i t v) 86)).heap.size (W.alloc (.cells (pk p i t v) 86)) w' → Calls Try.prog 105 #[.pointer (some ⟨A.getD i 0, 0, none⟩), vp] w' fun e w2 => ∃ n : Int, e = .returned (.int .i64 n) ∧ (w2.cell? ⟨W.heap.size, 0, none⟩ = some (.pointer (some ⟨p, 0, none⟩)) ∧ w2.cell? ⟨W.heap.size, 1, none⟩ = some (.int .i64 i) ∧ w2.cell? ⟨W.heap.size, 3, none⟩ = some (.int .i64 v)) ∧ w2.cell? ⟨W.heap.size, 2, none⟩ = some (.int .i64 t) ∧
      Hid (Calls Try.prog 64 #[.agg (pk p i t v)] w2 (Step (getV (rGet ((stealR R i v).getD i rg0)).1) W0 W p (home p q rv qv A) ((stealR R i v).set i (rGet ((stealR R i v).getD i rg0)).2) C))) := Lib.hid fun w' hb => (c3 w' hb).mono fun e w2 ⟨n, g1, g2, g3⟩ => by
    have hbx := (hb.block _ (block_lt hload)).trans hload
    have hbx2 := (g2.block _ (block_lt hbx) (fun e => by have := hHlt _ e; omega)).trans hbx
    obtain ⟨y0, y1, y2, y3⟩ := pk_cells hbx2
    have hbb : Below W.heap.size W w' := hb1.trans (hb.mono hb1.size)
    have hws : Wrote (home p q rv qv A) W (home p q rv qv A) w2 := (Wrote.of_below hbb).trans g2
    have hs2 : Ss W0 w2 p (home p q rv qv A) (stealR R i v) C := ⟨_, _, _, _, g3, hl, hb0.trans (Rw.below_of_wrote hws hl hb0.size), rfl⟩
    exact ⟨n, g1, ⟨y0, y1, y3⟩, y2, Lib.hid ((own_any hs2 (by rw [stealR_len]; exact hi) t v).mono fun e w3 ⟨k1, H', k2, k3⟩ => ⟨k1, H', hws.trans k2, k3⟩)⟩
  have c2h := Lib.hid c2
  obtain ⟨x0, x1, x2, x3⟩ := pk_cells hload
  clear h1 h2 hl hb0 hb1 c2 c3 hHlt hload
  generalize A.getD i 0 = ad at *
  obtain ⟨a, b, hv⟩ := get_pair (rGet ((stealR R i v).getD i rg0)).1
  rw [hv] at cs ⊢
  clear hv
  generalize (stealR R i v).set i (rGet ((stealR R i v).getD i rg0)).2 = R2 at *
  generalize hH : home p q rv qv A = H at *
  go_enter Try.func66, Try.ntmps66
  go_wp2_with fail
  generalize W.alloc (.cells (pk p i t v) 86) = w1 at *
  have hbd : Below w1.heap.size w1 w1.drew := (Below.refl _ _).drew
  go_region_held3 (fun W' => W'.cell? ⟨W.heap.size, 0, none⟩ = some (.pointer (some ⟨p, 0, none⟩)) ∧ W'.cell? ⟨W.heap.size, 1, none⟩ = some (.int .i64 i) ∧ W'.cell? ⟨W.heap.size, 3, none⟩ = some (.int .i64 v)) (first | exact ⟨x0, x1, x3⟩ | go_keep | assumption | (go_split_ands; exact ⟨cell_then (by assumption) (by assumption), cell_then (by assumption) (by assumption), cell_then (by assumption) (by assumption)⟩)) (first | (go_at_call 59; ((with_reducible refine (cr.out _ (by repeat (first | assumption | exact Below.refl _ _ | refine below_drewN ?_ _ | refine below_alloc ?_ _ | refine below_then ?_ (by assumption)))).mono ?_); rintro e wA ⟨rfl, hbA⟩)) | (go_at_call 59; ((with_reducible refine (c2h.out _ (by repeat (first | assumption | exact Below.refl _ _ | refine below_drewN ?_ _ | refine below_alloc ?_ _ | refine below_then ?_ (by assumption)))).mono ?_); rintro e wB ⟨rfl, hbB⟩)) | (go_at_call 105; ((with_reducible refine (cs.out _ (by repeat (first | assumption | exact Below.refl _ _ | refine below_drewN ?_ _ | refine below_alloc ?_ _ | refine below_then ?_ (by assumption)))).mono ?_); rintro e wS ⟨n, rfl, hk3, hk2, hown⟩)))
  all_goals
    obtain ⟨y0, y1, y3⟩ := hk3
    have hown := hown.out
    clear x0 x1 x2 x3 cr cs c2h
    go_wp2_with fail
    with_reducible refine Calls.mono hown ?_
    rintro e w3 ⟨rfl, hf⟩
    replace hf := Lib.hid hf
    clear hown
    go_wp2_with fail
    go_ret2
    exact ⟨rfl, hf.out⟩
/-- Who is picked, and what there is then. -/
def pickS (R : List Rg) (C : List Int) (i : Nat) (t v : Int) : Option Int × List Rg × List Int :=
  match turnS R C i t with
  | (some g, R1, C1) => (some g, R1, C1)
  | (none, _, _) => match rGet (R.getD i rg0) with
    | (some g, r) => (some g, R.set i r, C)
    | (none, _) => match takeS R C i 64 with
      | (some g, R1, C1) => (some g, R1, C1)
      | (none, _, _) => ((rGet ((stealR R i v).getD i rg0)).1, (stealR R i v).set i (rGet ((stealR R i v).getD i rg0)).2, C)
theorem take_none {i m : Nat} (h : (takeS R C i m).1 = none) : takeS R C i m = (none, R, C) := by
  unfold takeS at h ⊢
  cases e : List.take (qN C R.length m) C with
  | nil => rfl
  | cons g T => rw [e] at h; cases h
theorem turn_none {i : Nat} {t : Int} (h : (turnS R C i t).1 = none) : turnS R C i t = (none, R, C) := by
  unfold turnS at h ⊢
  by_cases e : t = 0 ∨ t.tmod 61 ≠ 0
  · rw [if_pos e]
  · rw [if_neg e] at h ⊢; exact take_none h
theorem rget_none {r : Rg} (h : (rGet r).1 = none) : r = rg0 ∧ rGet r = (none, r) := by
  obtain ⟨nx, L⟩ := r
  cases nx with
  | some y => cases h
  | none => cases L with
    | nil => exact ⟨rfl, rfl⟩
    | cons g T => cases h
/-- What the place number a gives. -/
def seekS (R : List Rg) (C : List Int) (i : Nat) (t v : Int) : Nat → Option Int × List Rg × List Int
  | 0 => turnS R C i t
  | 1 => ((rGet (R.getD i rg0)).1, R.set i (rGet (R.getD i rg0)).2, C)
  | 2 => takeS R C i 64
  | _ => ((rGet ((stealR R i v).getD i rg0)).1, (stealR R i v).set i (rGet ((stealR R i v).getD i rg0)).2, C)
theorem seek_no {i : Nat} {t v : Int} (hi : i < R.length) : ∀ {a : Nat}, a < 3 → (seekS R C i t v a).1 = none → seekS R C i t v a = (none, R, C)
  | 0, _, h => turn_none h
  | 1, _, h => by
    have e := (rget_none (r := R.getD i rg0) h).2
    show ((rGet (R.getD i rg0)).1, R.set i (rGet (R.getD i rg0)).2, C) = _
    rw [e]
    show (none, R.set i (R.getD i rg0), C) = _
    rw [set_self hi]
  | 2, _, h => take_none h
theorem pick_yes {i : Nat} {t v : Int} {g : Int} : ∀ {a : Nat}, a ≤ 3 → (∀ b, b < a → (seekS R C i t v b).1 = none) → (seekS R C i t v a).1 = some g → pickS R C i t v = seekS R C i t v a := fun {a} ha hno hy => by
  have fst : ∀ (x : Option Int × List Rg × List Int), x.1 = none → ∃ y z, x = (none, y, z) := fun ⟨a, b, c⟩ h => ⟨b, c, by rw [show a = none from h]⟩
  have fs : ∀ (x : Option Int × List Rg × List Int), x.1 = some g → ∃ y z, x = (some g, y, z) := fun ⟨a, b, c⟩ h => ⟨b, c, by rw [show a = some g from h]⟩
  have fs2 : ∀ (x : Option Int × Rg), x.1 = some g → ∃ y, x = (some g, y) := fun ⟨a, b⟩ h => ⟨b, by rw [show a = some g from h]⟩
  have f2 : ∀ (x : Option Int × Rg), x.1 = none → ∃ y, x = (none, y) := fun ⟨a, b⟩ h => ⟨b, by rw [show a = none from h]⟩
  rcases a with _ | _ | _ | _ | a
  · obtain ⟨y, z, e⟩ := fs _ hy
    change turnS R C i t = _ at e
    unfold pickS seekS; rw [e]; rfl
  · obtain ⟨y, z, e0⟩ := fst _ (hno 0 (by omega))
    obtain ⟨r, e1⟩ := fs2 _ (show (rGet (R.getD i rg0)).1 = some g from hy)
    change turnS R C i t = _ at e0
    unfold pickS seekS; rw [e0, e1]; rfl
  · obtain ⟨y, z, e0⟩ := fst _ (hno 0 (by omega))
    obtain ⟨r, e1⟩ := f2 _ (show (rGet (R.getD i rg0)).1 = none from hno 1 (by omega))
    obtain ⟨y2, z2, e2⟩ := fs _ hy
    change turnS R C i t = _ at e0
    change takeS R C i 64 = _ at e2
    unfold pickS seekS; rw [e0, e1, e2]; rfl
  · obtain ⟨y, z, e0⟩ := fst _ (hno 0 (by omega))
    obtain ⟨r, e1⟩ := f2 _ (show (rGet (R.getD i rg0)).1 = none from hno 1 (by omega))
    obtain ⟨y2, z2, e2⟩ := fst _ (hno 2 (by omega))
    change turnS R C i t = _ at e0
    change takeS R C i 64 = _ at e2
    unfold pickS seekS; rw [e0, e1, e2]; rfl
  · omega
theorem pick_no {i : Nat} {t v : Int} (hno : ∀ b, b < 3 → (seekS R C i t v b).1 = none) : pickS R C i t v = seekS R C i t v 3 := by
  have fst : ∀ (x : Option Int × List Rg × List Int), x.1 = none → ∃ y z, x = (none, y, z) := fun ⟨a, b, c⟩ h => ⟨b, c, by rw [show a = none from h]⟩
  have f2 : ∀ (x : Option Int × Rg), x.1 = none → ∃ y, x = (none, y) := fun ⟨a, b⟩ h => ⟨b, by rw [show a = none from h]⟩
  obtain ⟨y, z, e0⟩ := fst _ (hno 0 (by omega))
  obtain ⟨r, e1⟩ := f2 _ (show (rGet (R.getD i rg0)).1 = none from hno 1 (by omega))
  obtain ⟨y2, z2, e2⟩ := fst _ (hno 2 (by omega))
  change turnS R C i t = _ at e0
  change takeS R C i 64 = _ at e2
  unfold pickS seekS; rw [e0, e1, e2]; rfl
/-- The four places, as Pick goes through them. -/
abbrev fns (p : Nat) (i t v : Int) : Array Value := #[.func (.func 63) #[.agg (pk p i t v)] #[], .func (.func 64) #[.agg (pk p i t v)] #[], .func (.func 65) #[.agg (pk p i t v)] #[], .func (.func 66) #[.agg (pk p i t v)] #[]]
theorem fns_cells {w : World} {b p : Nat} {i t v : Int} {T : TypeId} (h : w.heap[b]? = some (.cells (fns p i t v) T (0, 0))) : w.cell? ⟨b, 0, none⟩ = some (.func (.func 63) #[.agg (pk p i t v)] #[]) ∧ w.cell? ⟨b, 1, none⟩ = some (.func (.func 64) #[.agg (pk p i t v)] #[]) ∧ w.cell? ⟨b, 2, none⟩ = some (.func (.func 65) #[.agg (pk p i t v)] #[]) ∧ w.cell? ⟨b, 3, none⟩ = some (.func (.func 66) #[.agg (pk p i t v)] #[]) := by
  unfold World.cell?; rw [h]; exact ⟨rfl, rfl, rfl, rfl⟩
theorem seek_turn (h : Ss W0 W p H R C) {i : Nat} (hi : i < R.length) (t v : Int) (hn : R.length ≤ 64) (hs : C.length ≤ 900000) (hno : ∀ b, b < 0 → (seekS R C i t v b).1 = none) : Calls Try.prog 63 #[.agg (pk p i t v)] W (Step (getV (seekS R C i t v 0).1) W0 W p H (seekS R C i t v 0).2.1 (seekS R C i t v 0).2.2) := turn_any h hi t v hn hs
theorem seek_own (h : Ss W0 W p H R C) {i : Nat} (hi : i < R.length) (t v : Int) (hn : R.length ≤ 64) (hs : C.length ≤ 900000) (hno : ∀ b, b < 1 → (seekS R C i t v b).1 = none) : Calls Try.prog 64 #[.agg (pk p i t v)] W (Step (getV (seekS R C i t v 1).1) W0 W p H (seekS R C i t v 1).2.1 (seekS R C i t v 1).2.2) := own_any h hi t v
theorem seek_shared (h : Ss W0 W p H R C) {i : Nat} (hi : i < R.length) (t v : Int) (hn : R.length ≤ 64) (hs : C.length ≤ 900000) (hno : ∀ b, b < 2 → (seekS R C i t v b).1 = none) : Calls Try.prog 65 #[.agg (pk p i t v)] W (Step (getV (seekS R C i t v 2).1) W0 W p H (seekS R C i t v 2).2.1 (seekS R C i t v 2).2.2) := shared_any h hi (rget_none (hno 1 (by omega))).1 t v hn hs
theorem seek_stolen (h : Ss W0 W p H R C) {i : Nat} (hi : i < R.length) (t v : Int) (hn : R.length ≤ 64) (hs : C.length ≤ 900000) (hno : ∀ b, b < 3 → (seekS R C i t v b).1 = none) : Calls Try.prog 66 #[.agg (pk p i t v)] W (Step (getV (seekS R C i t v 3).1) W0 W p H (seekS R C i t v 3).2.1 (seekS R C i t v 3).2.2) := stolen_any h hi t v
/-- Where Pick stands, ahead of place number a. -/
def Stage (R : List Rg) (C : List Int) (i : Nat) (t v : Int) (a : Nat) (Rx : List Rg) (Cx : List Int) : Prop := (a ≤ 3 → Rx = R ∧ Cx = C) ∧ (∀ b, b < a → (seekS R C i t v b).1 = none) ∧ (a = 4 → pickS R C i t v = (none, Rx, Cx))
theorem Stage.next {i : Nat} {t v : Int} {a : Nat} {Rx : List Rg} {Cx : List Int} (hi : i < R.length) (h : Stage R C i t v a Rx Cx) (ha : a ≤ 3) (hno : (seekS R C i t v a).1 = none) : Stage R C i t v (a + 1) (seekS R C i t v a).2.1 (seekS R C i t v a).2.2 := by
  have h2 : ∀ b, b < a + 1 → (seekS R C i t v b).1 = none := fun b hb => by
    by_cases e : b = a
    · subst e; exact hno
    · exact h.2.1 b (by omega)
  refine ⟨fun h3 => ?_, h2, fun h4 => ?_⟩
  · rw [seek_no hi (by omega) hno]; exact ⟨rfl, rfl⟩
  · obtain rfl : a = 3 := by omega
    rw [pick_no (fun b hb => h2 b (by omega))]
    rw [← hno]
set_option maxRecDepth 100000 in
set_option maxHeartbeats 4000000 in
theorem pick_in (h : Ss W0 W p H R C) {i : Nat} (hi : i < R.length) (t v : Int) (hn : R.length ≤ 64) (hs : C.length ≤ 900000) : Calls Try.prog 18 #[.pointer (some ⟨p, 0, none⟩), .int .i64 i, .int .i64 t, .int .i64 v] W (Step (getV (pickS R C i t v).1) W0 W p H (pickS R C i t v).2.1 (pickS R C i t v).2.2) := by
  have hmf : ∀ (fn : Fn) (first cap : Array Value) (w : World), (Instr.makeFunc fn first cap).run Try.prog w = .ok (.func fn first cap) w := fun _ _ _ _ => rfl
  have cr : Calls Try.prog 59 #[.pointer (some ⟨p, 0, none⟩), .int .i64 i] W fun e w' => ∃ a, e = .returned (.pointer (some ⟨a, 0, none⟩)) ∧ Hid (Ss W0 w' p H R C ∧ Below W.heap.size W w') := by
    obtain ⟨q, rv, qv, A, h1, h2, h3, h4⟩ := id h
    exact (ring_in h1 hi).mono fun e w' ⟨a, n, hn⟩ => ⟨_, a, Lib.hid (by subst hn; have hb := below_drewN (Below.refl W.heap.size W) n; exact ⟨h.below hb, hb⟩)⟩
  clear h
  go_enter Try.func18, Try.ntmps18
  go_wp2_with fail
  with_reducible refine Calls.mono cr ?_
  rintro e w2 ⟨a, rfl, hss⟩
  have x0 : Hid (∀ w : World, (w.alloc (.cells (pk p i t v) 86)).heap[w.heap.size]? = some (.cells (pk p i t v) 86 (0, 0))) := Lib.hid fun w => heap_alloc_new _ _
  obtain ⟨y0, y1, y2, y3⟩ := pk_cells (x0.out w2)
  clear cr x0
  have hba := below_alloc (below_alloc (Below.refl _ w2) (.cells (pk p i t v) 86)) (.cells (fns p i t v) 87)
  have hs2 := Lib.hid (hss.out.1.below hba)
  have hw2 : Hid (Wrote H W H ((w2.alloc (.cells (pk p i t v) 86)).alloc (.cells (fns p i t v) 87))) := Lib.hid (Wrote.of_below (hss.out.2.trans (hba.mono hss.out.2.size)))
  have hsz : (w2.alloc (.cells (pk p i t v) 86)).heap.size = w2.heap.size + 1 := by show (w2.heap.push _).size = _; rw [Array.size_push]
  have hfn : Hid (((w2.alloc (.cells (pk p i t v) 86)).alloc (.cells (fns p i t v) 87)).heap[w2.heap.size + 1]? = some (.cells (fns p i t v) 87 (0, 0))) := Lib.hid (by rw [← hsz]; exact heap_alloc_new _ _)
  have hno : Hid (¬ H (w2.heap.size + 1)) := Lib.hid fun e => by have := hss.out.1.lt e; omega
  have hst : Hid (Stage R C i t v 0 R C) := Lib.hid ⟨fun _ => ⟨rfl, rfl⟩, fun b hb => by omega, fun h => by omega⟩
  clear hss hba hsz
  go_wp2_with fail
  generalize (w2.alloc (.cells (pk p i t v) 86)).alloc (.cells (fns p i t v) 87) = w3 at *
  generalize w2.heap.size + 1 = B at *
  clear y0 y1 y2 y3 hmf
  go_loopw [34] (fun x wr => ∃ (a : Nat) (H3 : Home) (Rx : List Rg) (Cx : List Int), x = .int .i64 a ∧ a ≤ 4 ∧ Hid (Stage R C i t v a Rx Cx) ∧ Hid (Ss W0 wr p H3 Rx Cx) ∧ Hid (Wrote H W H3 wr) ∧ Hid (wr.heap[B]? = some (.cells (fns p i t v) 87 (0, 0))) ∧ Hid (¬ H3 B)) (fun x _ => (4 - (RowKit.intOf x).toNat))
  case atStart => exact ⟨0, H, R, C, rfl, by omega, hst, hs2, hw2, hfn, hno⟩
  case round =>
    clear hst hs2 hw2 hfn hno
    obtain ⟨a, H3, Rx, Cx, rfl, a4, hst, hss, hw, hfn, hno⟩ := hrel
    rcases a with _ | _ | _ | _ | a
    · obtain ⟨rfl, rfl⟩ := hst.out.1 (by omega)
      obtain ⟨z0, z1, z2, z3⟩ := fns_cells hfn.out
      have cs := seek_turn hss.out hi t v hn hs (fun b hb => hst.out.2.1 b (by omega))
      have hnx : Hid (∀ w5 H5, Wrote H3 wr H5 w5 → Hid (Wrote H W H5 w5) ∧ Hid (w5.heap[B]? = some (.cells (fns p i t v) 87 (0, 0))) ∧ Hid (¬ H5 B)) := Lib.hid fun w5 H5 hw5 => ⟨Lib.hid (hw.out.trans hw5), Lib.hid ((hw5.block _ (block_lt hfn.out) hno.out).trans hfn.out), Lib.hid fun e => (hw5.home _ e).elim hno.out (fun h2 => by have := block_lt hfn.out; omega)⟩
      obtain ⟨o, ho⟩ : ∃ o, (seekS Rx Cx i t v 0).1 = o := ⟨_, rfl⟩
      rw [ho] at cs
      cases o with
      | some g =>
        have hp := Lib.hid (pick_yes (by omega) (fun b hb => hst.out.2.1 b (by omega)) ho)
        replace ho := Lib.hid ho
        replace cs : Calls Try.prog 63 #[.agg (pk p i t v)] wr (Step (.tuple #[.int .i64 g, .bool true]) W0 wr p H3 (seekS Rx Cx i t v 0).2.1 (seekS Rx Cx i t v 0).2.2) := cs
        clear hst hss hfn hno
        go_wp2_with fail
        with_reducible refine Calls.mono cs ?_
        rintro e w5 ⟨rfl, H5, hw5, hs5⟩
        replace hw5 := Lib.hid hw5
        replace hs5 := Lib.hid hs5
        clear cs z0 z1 z2 z3
        go_wp2_with fail
        go_ret2
        rw [hp.out, ho.out]
        exact ⟨rfl, H5, (hnx.out w5 H5 hw5.out).1.out, hs5.out⟩
      | none =>
        have hst2 := Lib.hid (hst.out.next hi (by omega) ho)
        replace ho := Lib.hid ho
        replace cs : Calls Try.prog 63 #[.agg (pk p i t v)] wr (Step (.tuple #[.int .i64 0, .bool false]) W0 wr p H3 (seekS Rx Cx i t v 0).2.1 (seekS Rx Cx i t v 0).2.2) := cs
        clear hst hss hfn hno
        go_wp2_with fail
        with_reducible refine Calls.mono cs ?_
        rintro e w5 ⟨rfl, H5, hw5, hs5⟩
        obtain ⟨n1, n2, n3⟩ := hnx.out w5 H5 hw5
        replace hs5 := Lib.hid hs5
        clear cs z0 z1 z2 z3 hw5 hnx
        go_wp2_with fail
        go_roundw
        case rel => exact ⟨0 + 1, H5, _, _, rfl, by omega, hst2, hs5, n1, n2, n3⟩
        case measure => simp [RowKit.intOf]
    · obtain ⟨rfl, rfl⟩ := hst.out.1 (by omega)
      obtain ⟨z0, z1, z2, z3⟩ := fns_cells hfn.out
      have cs := seek_own hss.out hi t v hn hs (fun b hb => hst.out.2.1 b (by omega))
      have hnx : Hid (∀ w5 H5, Wrote H3 wr H5 w5 → Hid (Wrote H W H5 w5) ∧ Hid (w5.heap[B]? = some (.cells (fns p i t v) 87 (0, 0))) ∧ Hid (¬ H5 B)) := Lib.hid fun w5 H5 hw5 => ⟨Lib.hid (hw.out.trans hw5), Lib.hid ((hw5.block _ (block_lt hfn.out) hno.out).trans hfn.out), Lib.hid fun e => (hw5.home _ e).elim hno.out (fun h2 => by have := block_lt hfn.out; omega)⟩
      obtain ⟨o, ho⟩ : ∃ o, (seekS Rx Cx i t v 1).1 = o := ⟨_, rfl⟩
      rw [ho] at cs
      cases o with
      | some g =>
        have hp := Lib.hid (pick_yes (by omega) (fun b hb => hst.out.2.1 b (by omega)) ho)
        replace ho := Lib.hid ho
        replace cs : Calls Try.prog 64 #[.agg (pk p i t v)] wr (Step (.tuple #[.int .i64 g, .bool true]) W0 wr p H3 (seekS Rx Cx i t v 1).2.1 (seekS Rx Cx i t v 1).2.2) := cs
        clear hst hss hfn hno
        go_wp2_with fail
        with_reducible refine Calls.mono cs ?_
        rintro e w5 ⟨rfl, H5, hw5, hs5⟩
        replace hw5 := Lib.hid hw5
        replace hs5 := Lib.hid hs5
        clear cs z0 z1 z2 z3
        go_wp2_with fail
        go_ret2
        rw [hp.out, ho.out]
        exact ⟨rfl, H5, (hnx.out w5 H5 hw5.out).1.out, hs5.out⟩
      | none =>
        have hst2 := Lib.hid (hst.out.next hi (by omega) ho)
        replace ho := Lib.hid ho
        replace cs : Calls Try.prog 64 #[.agg (pk p i t v)] wr (Step (.tuple #[.int .i64 0, .bool false]) W0 wr p H3 (seekS Rx Cx i t v 1).2.1 (seekS Rx Cx i t v 1).2.2) := cs
        clear hst hss hfn hno
        go_wp2_with fail
        with_reducible refine Calls.mono cs ?_
        rintro e w5 ⟨rfl, H5, hw5, hs5⟩
        obtain ⟨n1, n2, n3⟩ := hnx.out w5 H5 hw5
        replace hs5 := Lib.hid hs5
        clear cs z0 z1 z2 z3 hw5 hnx
        go_wp2_with fail
        go_roundw
        case rel => exact ⟨1 + 1, H5, _, _, rfl, by omega, hst2, hs5, n1, n2, n3⟩
        case measure => simp [RowKit.intOf]
    · obtain ⟨rfl, rfl⟩ := hst.out.1 (by omega)
      obtain ⟨z0, z1, z2, z3⟩ := fns_cells hfn.out
      have cs := seek_shared hss.out hi t v hn hs (fun b hb => hst.out.2.1 b (by omega))
      have hnx : Hid (∀ w5 H5, Wrote H3 wr H5 w5 → Hid (Wrote H W H5 w5) ∧ Hid (w5.heap[B]? = some (.cells (fns p i t v) 87 (0, 0))) ∧ Hid (¬ H5 B)) := Lib.hid fun w5 H5 hw5 => ⟨Lib.hid (hw.out.trans hw5), Lib.hid ((hw5.block _ (block_lt hfn.out) hno.out).trans hfn.out), Lib.hid fun e => (hw5.home _ e).elim hno.out (fun h2 => by have := block_lt hfn.out; omega)⟩
      obtain ⟨o, ho⟩ : ∃ o, (seekS Rx Cx i t v 2).1 = o := ⟨_, rfl⟩
      rw [ho] at cs
      cases o with
      | some g =>
        have hp := Lib.hid (pick_yes (by omega) (fun b hb => hst.out.2.1 b (by omega)) ho)
        replace ho := Lib.hid ho
        replace cs : Calls Try.prog 65 #[.agg (pk p i t v)] wr (Step (.tuple #[.int .i64 g, .bool true]) W0 wr p H3 (seekS Rx Cx i t v 2).2.1 (seekS Rx Cx i t v 2).2.2) := cs
        clear hst hss hfn hno
        go_wp2_with fail
        with_reducible refine Calls.mono cs ?_
        rintro e w5 ⟨rfl, H5, hw5, hs5⟩
        replace hw5 := Lib.hid hw5
        replace hs5 := Lib.hid hs5
        clear cs z0 z1 z2 z3
        go_wp2_with fail
        go_ret2
        rw [hp.out, ho.out]
        exact ⟨rfl, H5, (hnx.out w5 H5 hw5.out).1.out, hs5.out⟩
      | none =>
        have hst2 := Lib.hid (hst.out.next hi (by omega) ho)
        replace ho := Lib.hid ho
        replace cs : Calls Try.prog 65 #[.agg (pk p i t v)] wr (Step (.tuple #[.int .i64 0, .bool false]) W0 wr p H3 (seekS Rx Cx i t v 2).2.1 (seekS Rx Cx i t v 2).2.2) := cs
        clear hst hss hfn hno
        go_wp2_with fail
        with_reducible refine Calls.mono cs ?_
        rintro e w5 ⟨rfl, H5, hw5, hs5⟩
        obtain ⟨n1, n2, n3⟩ := hnx.out w5 H5 hw5
        replace hs5 := Lib.hid hs5
        clear cs z0 z1 z2 z3 hw5 hnx
        go_wp2_with fail
        go_roundw
        case rel => exact ⟨2 + 1, H5, _, _, rfl, by omega, hst2, hs5, n1, n2, n3⟩
        case measure => simp [RowKit.intOf]
    · obtain ⟨rfl, rfl⟩ := hst.out.1 (by omega)
      obtain ⟨z0, z1, z2, z3⟩ := fns_cells hfn.out
      have cs := seek_stolen hss.out hi t v hn hs (fun b hb => hst.out.2.1 b (by omega))
      have hnx : Hid (∀ w5 H5, Wrote H3 wr H5 w5 → Hid (Wrote H W H5 w5) ∧ Hid (w5.heap[B]? = some (.cells (fns p i t v) 87 (0, 0))) ∧ Hid (¬ H5 B)) := Lib.hid fun w5 H5 hw5 => ⟨Lib.hid (hw.out.trans hw5), Lib.hid ((hw5.block _ (block_lt hfn.out) hno.out).trans hfn.out), Lib.hid fun e => (hw5.home _ e).elim hno.out (fun h2 => by have := block_lt hfn.out; omega)⟩
      obtain ⟨o, ho⟩ : ∃ o, (seekS Rx Cx i t v 3).1 = o := ⟨_, rfl⟩
      rw [ho] at cs
      cases o with
      | some g =>
        have hp := Lib.hid (pick_yes (by omega) (fun b hb => hst.out.2.1 b (by omega)) ho)
        replace ho := Lib.hid ho
        replace cs : Calls Try.prog 66 #[.agg (pk p i t v)] wr (Step (.tuple #[.int .i64 g, .bool true]) W0 wr p H3 (seekS Rx Cx i t v 3).2.1 (seekS Rx Cx i t v 3).2.2) := cs
        clear hst hss hfn hno
        go_wp2_with fail
        with_reducible refine Calls.mono cs ?_
        rintro e w5 ⟨rfl, H5, hw5, hs5⟩
        replace hw5 := Lib.hid hw5
        replace hs5 := Lib.hid hs5
        clear cs z0 z1 z2 z3
        go_wp2_with fail
        go_ret2
        rw [hp.out, ho.out]
        exact ⟨rfl, H5, (hnx.out w5 H5 hw5.out).1.out, hs5.out⟩
      | none =>
        have hst2 := Lib.hid (hst.out.next hi (by omega) ho)
        replace ho := Lib.hid ho
        replace cs : Calls Try.prog 66 #[.agg (pk p i t v)] wr (Step (.tuple #[.int .i64 0, .bool false]) W0 wr p H3 (seekS Rx Cx i t v 3).2.1 (seekS Rx Cx i t v 3).2.2) := cs
        clear hst hss hfn hno
        go_wp2_with fail
        with_reducible refine Calls.mono cs ?_
        rintro e w5 ⟨rfl, H5, hw5, hs5⟩
        obtain ⟨n1, n2, n3⟩ := hnx.out w5 H5 hw5
        replace hs5 := Lib.hid hs5
        clear cs z0 z1 z2 z3 hw5 hnx
        go_wp2_with fail
        go_roundw
        case rel => exact ⟨3 + 1, H5, _, _, rfl, by omega, hst2, hs5, n1, n2, n3⟩
        case measure => simp [RowKit.intOf]
    · obtain rfl : a = 0 := by omega
      have hp := Lib.hid (hst.out.2.2 rfl)
      clear hst
      go_wp2_with fail
      go_ret2
      rw [hp.out]
      exact ⟨rfl, H3, hw.out, hss.out⟩
end Sd
end Go.Proofs.Ytpclacaiabbmjaa
