/- A set of the package bits as it lies in memory, and what its reading calls answer. -/
import Derived.Test.YtoamabmnbldgkaaDoorOnes
import Derived.Deep.OwnRows
import Derived.Deep.RegionWith
import Derived.Deep.RegionHeld3
import Derived.StillTailTactics
import Derived.LoopTactic
import Derived.WalkLawsBesides
namespace Go.Proofs.YtoamabmnbldgkaaDoor
open Go.RowKit Go.Lib Fx Bm
set_option linter.unusedVariables false

/-- The set of the numbers M below n lies at block p, its words in block b. -/
structure IsSet (w : World) (p b n : Nat) (M : Nat → Bool) : Prop where
  head : w.heap[p]? = some (.cells #[.int .i64 n, .slice (some ⟨b, 0, none⟩) ((n + 63) / 64) ((n + 63) / 64)] 64 (0, 0))
  row : w.rowIs b 65 ((n + 63) / 64) (fun j => .int .u64 (word M j : Nat))
  small : n ≤ 16777216
  out : ∀ i, n ≤ i → M i = false
  ne : p ≠ b
namespace IsSet
variable {w w' : World} {p b n : Nat} {M : Nat → Bool}
theorem c0 (h : IsSet w p b n M) : w.cell? ⟨p, 0, none⟩ = some (.int .i64 n) := by unfold World.cell?; rw [h.head]; rfl
theorem c1 (h : IsSet w p b n M) : w.cell? ⟨p, 1, none⟩ = some (.slice (some ⟨b, 0, none⟩) ((n + 63) / 64) ((n + 63) / 64)) := by unfold World.cell?; rw [h.head]; rfl
theorem lt (h : IsSet w p b n M) : p < w.heap.size := by
  rcases Nat.lt_or_ge p w.heap.size with h' | h'
  · exact h'
  · have := h.head; rw [Array.getElem?_eq_none h'] at this; cases this
theorem drewN (h : IsSet w p b n M) (k : Nat) : IsSet (w.drewN k) p b n M := ⟨h.head, h.row, h.small, h.out, h.ne⟩
theorem keep (h : IsSet w p b n M) {row : Option Nat} (hg : w.grownBy w' row) (h1 : row ≠ some p) (h2 : row ≠ some b) : IsSet w' p b n M :=
  ⟨by rw [hg.block p h.lt (Ne.symm h1)]; exact h.head, h.row.of_block (hg.block b h.row.lt (Ne.symm h2)), h.small, h.out, h.ne⟩
end IsSet

set_option maxRecDepth 100000 in
theorem setlen_nil  (w : World)  : Calls Tryd.prog 10 #[.pointer none] w (Same (.int .i64 0) w) := by
  go_enter Tryd.func10, Tryd.ntmps10
  go_wp2_with fail
  go_ret
  exact ⟨rfl, rfl⟩
set_option maxRecDepth 100000 in
theorem setlen_any (p n : Nat) (w : World) (hc : w.cell? ⟨p, 0, none⟩ = some (.int .i64 n)) : Calls Tryd.prog 10 #[.pointer (some ⟨p, 0, none⟩)] w (Same (.int .i64 n) w) := by
  go_enter Tryd.func10, Tryd.ntmps10
  go_wp2_with fail
  go_ret
  exact ⟨rfl, rfl⟩
set_option maxRecDepth 100000 in
theorem setmay_nil (i : Int) (w : World)  : Calls Tryd.prog 47 #[.pointer none, .int .i64 i] w (Same (.bool false) w) := by
  have c := setlen_nil w
  by_cases h : 0 ≤ i
  · have hd : decide (i < 0) = false := decide_eq_false (by omega)
    go_enter Tryd.func47, Tryd.ntmps47
    go_wp2_with (go_at_call 10; ((with_reducible refine c.mono ?_); rintro e w' ⟨rfl, rfl⟩))
    go_ret
    exact ⟨rfl, rfl⟩
  · have hd : decide (0 ≤ i) = false := decide_eq_false h
    go_enter Tryd.func47, Tryd.ntmps47
    go_wp2_with fail
    go_ret
    exact ⟨rfl, rfl⟩
set_option maxRecDepth 100000 in
theorem setmay_any (p n : Nat) (i : Int) (w : World) (hc : w.cell? ⟨p, 0, none⟩ = some (.int .i64 n)) : Calls Tryd.prog 47 #[.pointer (some ⟨p, 0, none⟩), .int .i64 i] w (Same (.bool (decide (0 ≤ i ∧ i < n))) w) := by
  have c := setlen_any p n w hc
  by_cases h : 0 ≤ i
  · by_cases h2 : i < (n : Int)
    · rw [decide_eq_true ⟨h, h2⟩]
      have hd : decide (i < (n : Int)) = true := decide_eq_true h2
      go_enter Tryd.func47, Tryd.ntmps47
      go_wp2_with (go_at_call 10; ((with_reducible refine c.mono ?_); rintro e w' ⟨rfl, rfl⟩))
      go_ret
      exact ⟨rfl, rfl⟩
    · rw [decide_eq_false (by omega)]
      have hd : decide (i < (n : Int)) = false := decide_eq_false h2
      go_enter Tryd.func47, Tryd.ntmps47
      go_wp2_with (go_at_call 10; ((with_reducible refine c.mono ?_); rintro e w' ⟨rfl, rfl⟩))
      go_ret
      exact ⟨rfl, rfl⟩
  · rw [decide_eq_false (by omega)]
    have hd : decide (0 ≤ i) = false := decide_eq_false h
    go_enter Tryd.func47, Tryd.ntmps47
    go_wp2_with fail
    go_ret
    exact ⟨rfl, rfl⟩
set_option maxRecDepth 100000 in
theorem bit_any (i : Nat) (hi : i ≤ 16777216) (w : World)  : Calls Tryd.prog 48 #[.int .i64 i] w (Same (.int .u64 (2 ^ (i % 64) : Nat)) w) := by
  have h2 : 2 ^ (i % 64) < 18446744073709551616 := (Nat.pow_lt_pow_right (by decide) (Nat.mod_lt _ (by decide)) : 2 ^ (i % 64) < 2 ^ 64)
  have hp : (2 : Int) ^ (i % 64) = ((2 ^ (i % 64) : Nat) : Int) := (Int.natCast_pow 2 (i % 64)).symm
  obtain ⟨v, hv⟩ : ∃ v, v = 2 ^ (i % 64) := ⟨_, rfl⟩
  rw [← hv] at h2 hp ⊢
  have hw : IntKind.u64.wrap ((2 : Int) ^ (i % 64)) = (v : Int) := by rw [hp, IntKind.wrap_u64]; omega
  clear hp hv h2
  go_enter Tryd.func48, Tryd.ntmps48
  go_wp2_with fail
  go_ret
  refine ⟨?_, rfl⟩
  show Ending.returned (Value.int .u64 (IntKind.u64.wrap ((2 : Int) ^ (i % 64)))) = _
  rw [hw]
/-- Is i in the set? -/
def hasI (M : Nat → Bool) (i : Int) : Bool := decide (0 ≤ i) && M i.toNat
theorem hasI_out {M : Nat → Bool} {n : Nat} (h : ∀ i, n ≤ i → M i = false) {i : Int} (hi : ¬ (0 ≤ i ∧ i < (n : Int))) : hasI M i = false := by
  unfold hasI
  by_cases h0 : 0 ≤ i
  · rw [h i.toNat (by omega), Bool.and_false]
  · rw [decide_eq_false h0]; rfl
set_option maxRecDepth 100000 in
theorem sethas_nil (i : Int) (w : World) : Calls Tryd.prog 19 #[.pointer none, .int .i64 i] w (Ans (.bool false) w) := by
  have c := fun w => Same.ans (setmay_nil i w)
  go_enter Tryd.func19, Tryd.ntmps19
  go_wp2_with fail
  go_quiet ((go_at_call 47; with_reducible exact quiet_ans0 c))
  go_wp2_with fail
  go_ret
  exact ⟨rfl, _, rfl⟩
set_option maxRecDepth 100000 in
set_option maxHeartbeats 1000000 in
theorem sethas_any {p b n : Nat} {M : Nat → Bool} (i : Int) (w : World) (h : IsSet w p b n M) : Calls Tryd.prog 19 #[.pointer (some ⟨p, 0, none⟩), .int .i64 i] w (Ans (.bool (hasI M i)) w) := by
  have c0 := h.c0
  have c1 := h.c1
  have cm : ∀ w' : World, w'.cell? ⟨p, 0, none⟩ = some (.int .i64 n) → Calls Tryd.prog 47 #[.pointer (some ⟨p, 0, none⟩), .int .i64 i] w' (Ans (.bool (decide (0 ≤ i ∧ i < n))) w') := fun w' hc => Same.ans (setmay_any p n i w' hc)
  by_cases hi : 0 ≤ i ∧ i < (n : Int)
  · rw [decide_eq_true hi] at cm
    obtain ⟨q, rfl⟩ : ∃ q : Nat, i = q := ⟨i.toNat, by omega⟩
    have hs := h.small
    have cb : ∀ w' : World, Calls Tryd.prog 48 #[.int .i64 q] w' (Ans (.int .u64 (2 ^ (q % 64) : Nat)) w') := fun w' => Same.ans (bit_any q (by omega) w')
    have hcell := h.row.cell (i := q / 64) (by omega)
    have hq : IntKind.i64.wrap ((q : Int) / 64) = ((q / 64 : Nat) : Int) := IntWalk.i64_in _ ⟨by omega, by omega⟩
    have hand := bits_and_u64_nat (word M (q / 64)) (2 ^ (q % 64)) (word_lt _ _) (Nat.pow_lt_pow_right (by decide) (Nat.mod_lt _ (by decide)) : 2 ^ (q % 64) < 2 ^ 64)
    have hne : (((word M (q / 64) &&& 2 ^ (q % 64) : Nat) : Int) == 0) = !hasI M q := by
      rw [word_has, show hasI M q = M q by unfold hasI; rw [decide_eq_true (by omega), Bool.true_and, Int.toNat_natCast]]
      cases M q with
      | true => have := Nat.two_pow_pos (q % 64); rw [if_pos rfl]; show _ = false; rw [beq_eq_false_iff_ne]; omega
      | false => rfl
    have j0 : (0 : Int) ≤ ((q / 64 : Nat) : Int) := Int.natCast_nonneg _
    have j1 : ((q / 64 : Nat) : Int) < (((n + 63) / 64 : Nat) : Int) := by omega
    generalize ((word M (q / 64) &&& 2 ^ (q % 64) : Nat) : Int) = R at *
    generalize ((2 ^ (q % 64) : Nat) : Int) = B at *
    generalize ((word M (q / 64) : Nat) : Int) = X at *
    generalize (n + 63) / 64 = m at *
    generalize q / 64 = j at *
    generalize hasI M q = res at *
    clear h hi hs
    go_enter Tryd.func19, Tryd.ntmps19
    go_wp2_with fail
    go_quiet ((first | (go_at_call 47; refine quiet_ans1 (cm _ ?_); exact c0) | (go_at_call 48; with_reducible exact quiet_ans0 cb)))
    go_wp2_with fail
    go_ret
    exact ⟨by simp [bne, hne], _, rfl⟩
  · rw [hasI_out h.out hi]
    rw [decide_eq_false hi] at cm
    go_enter Tryd.func19, Tryd.ntmps19
    go_wp2_with fail
    go_quiet ((first | (go_at_call 47; refine quiet_ans1 (cm _ ?_); exact c0)))
    go_wp2_with fail
    go_ret
    exact ⟨rfl, _, rfl⟩

theorem upd_same {M : Nat → Bool} {i : Nat} {b : Bool} (h : M i = b) : upd M i b = M := by
  funext k; unfold upd; split
  · rename_i e; rw [e, h]
  · rfl
theorem upd_out {M : Nat → Bool} {n i : Nat} {b : Bool} (h : ∀ i, n ≤ i → M i = false) (hi : i < n) : ∀ k, n ≤ k → upd M i b k = false := fun k hk => by
  unfold upd; rw [if_neg (by omega)]; exact h k hk
/-- A word written anew. -/
theorem IsSet.store {w W : World} {p b n : Nat} {M : Nat → Bool} (h : IsSet w p b n M) {q : Nat} (hq : q < n) (v : Bool) (hh : W.heap = (w.setCell ⟨b, q / 64, none⟩ (.int .u64 (word (upd M q v) (q / 64) : Nat))).heap) (ho : W.os = w.os) (ht : W.tape = w.tape) (hu : W.output = w.output) :
    w.grownBy W (some b) ∧ IsSet W p b n (upd M q v) := by
  have hg : w.grownBy W (some b) := ⟨ho, ht, hu, by rw [hh]; simp [World.setCell], fun k _ hk => by rw [hh]; exact Below.heap_setCell _ _ _ _ (fun e => hk (by rw [e]))⟩
  refine ⟨hg, ⟨?_, ?_, h.small, upd_out h.out hq, h.ne⟩⟩
  · rw [hh, Below.heap_setCell _ _ _ _ h.ne]; exact h.head
  · have h1 := h.row.set (q / 64) (.int .u64 (word (upd M q v) (q / 64) : Nat))
    have h2 := h1.congr (g := fun j => .int .u64 (word (upd M q v) j : Nat)) fun j _ => by
      show (if j = q / 64 then _ else _) = _
      by_cases e : j = q / 64
      · subst e; rw [if_pos rfl]
      · rw [if_neg e, word_upd_far M q v e]
    exact h2.of_block (by rw [hh])

def setM (M : Nat → Bool) (n : Nat) (i : Int) : Nat → Bool := if 0 ≤ i ∧ i < (n : Int) then upd M i.toNat true else M
def clrM (M : Nat → Bool) (i : Int) : Nat → Bool := if 0 ≤ i then upd M i.toNat false else M
/-- The call answers v, writes block b at most, and makes the set M. -/
def Turns (v : Value) (w : World) (p b n : Nat) (M : Nat → Bool) (e : Ending) (w' : World) : Prop := e = .returned v ∧ w.grownBy w' (some b) ∧ IsSet w' p b n M
theorem grownBy_drewN (w : World) (k : Nat) (row : Option Nat) : w.grownBy (w.drewN k) row := ⟨rfl, rfl, rfl, Nat.le_refl _, fun _ _ _ => rfl⟩

set_option maxRecDepth 100000 in
set_option maxHeartbeats 1000000 in
theorem setset_any {p b n : Nat} {M : Nat → Bool} (i : Int) (w : World) (h : IsSet w p b n M) : Calls Tryd.prog 12 #[.pointer (some ⟨p, 0, none⟩), .int .i64 i] w (Turns (.bool (decide (0 ≤ i ∧ i < (n : Int)) && !hasI M i)) w p b n (setM M n i)) := by
  have c0 := h.c0
  have cm := setmay_any p n i w c0
  have ch := sethas_any i w h
  by_cases hi : 0 ≤ i ∧ i < (n : Int)
  · rw [decide_eq_true hi] at cm ⊢
    have hset : setM M n i = upd M i.toNat true := by unfold setM; rw [if_pos hi]
    rw [hset]
    obtain ⟨q, rfl⟩ : ∃ q : Nat, i = q := ⟨i.toNat, by omega⟩
    have hM : hasI M q = M q := by unfold hasI; rw [decide_eq_true (by omega), Bool.true_and, Int.toNat_natCast]
    rw [Int.toNat_natCast]
    rw [hM] at ch ⊢
    clear hset hM
    cases hMq : M q with
    | true =>
      rw [hMq] at ch
      rw [upd_same hMq]
      go_enter Tryd.func12, Tryd.ntmps12
      go_wp2_with (first | (go_at_call 47; ((with_reducible refine cm.mono ?_); rintro e w' ⟨rfl, rfl⟩)) | (go_at_call 19; ((with_reducible refine ch.mono ?_); rintro e w' ⟨rfl, k, rfl⟩)))
      go_ret
      exact ⟨rfl, grownBy_drewN _ _ _, h.drewN _⟩
    | false =>
      rw [hMq] at ch
      have hs := h.small
      have cb := fun w' => bit_any q (by omega) w'
      have c1 := h.c1
      have hcell := h.row.cell (i := q / 64) (by omega)
      have hfz := h.row.frozen (q / 64)
      have hq : IntKind.i64.wrap ((q : Int) / 64) = ((q / 64 : Nat) : Int) := IntWalk.i64_in _ ⟨by omega, by omega⟩
      have hor := bits_or_u64_nat (word M (q / 64)) (2 ^ (q % 64)) (word_lt _ _) (Nat.pow_lt_pow_right (by decide) (Nat.mod_lt _ (by decide)) : 2 ^ (q % 64) < 2 ^ 64)
      rw [word_set] at hor
      have j0 : (0 : Int) ≤ ((q / 64 : Nat) : Int) := Int.natCast_nonneg _
      have j1 : ((q / 64 : Nat) : Int) < (((n + 63) / 64 : Nat) : Int) := by omega
      have hfin := fun W => h.store (W := W) (q := q) (by omega) true
      clear h hMq hs
      generalize ((word (upd M q true) (q / 64) : Nat) : Int) = R at *
      generalize ((2 ^ (q % 64) : Nat) : Int) = B at *
      generalize ((word M (q / 64) : Nat) : Int) = X at *
      generalize (n + 63) / 64 = m at *
      generalize q / 64 = j at *
      have hfin : Hid (∀ W : World, W.heap = (w.setCell ⟨b, j, none⟩ (.int .u64 R)).heap → W.os = w.os → W.tape = w.tape → W.output = w.output → w.grownBy W (some b) ∧ IsSet W p b n (upd M q true)) := hfin
      go_enter Tryd.func12, Tryd.ntmps12
      go_wp2_with (first | (go_at_call 47; ((with_reducible refine cm.mono ?_); rintro e w' ⟨rfl, rfl⟩)) | (go_at_call 19; ((with_reducible refine ch.mono ?_); rintro e w' ⟨rfl, k, rfl⟩)))
      go_region_with (go_at_call 48; ((with_reducible refine (cb _).mono ?_); rintro e w' ⟨rfl, rfl⟩))
      all_goals (go_wp2_with fail; go_ret; exact ⟨rfl, hfin.out _ rfl rfl rfl rfl⟩)
  · rw [decide_eq_false hi] at cm ⊢
    rw [show setM M n i = M by unfold setM; rw [if_neg hi]]
    go_enter Tryd.func12, Tryd.ntmps12
    go_wp2_with (first | (go_at_call 47; ((with_reducible refine cm.mono ?_); rintro e w' ⟨rfl, rfl⟩)))
    go_ret
    exact ⟨rfl, grownBy_drewN w 0 _, h⟩

set_option maxRecDepth 100000 in
set_option maxHeartbeats 1000000 in
theorem setclr_any {p b n : Nat} {M : Nat → Bool} (i : Int) (w : World) (h : IsSet w p b n M) : Calls Tryd.prog 14 #[.pointer (some ⟨p, 0, none⟩), .int .i64 i] w (Turns (.bool (hasI M i)) w p b n (clrM M i)) := by
  have ch := sethas_any i w h
  cases hH : hasI M i with
  | false =>
    rw [hH] at ch
    have hc : clrM M i = M := by
      unfold clrM
      by_cases h0 : 0 ≤ i
      · rw [if_pos h0]
        unfold hasI at hH
        rw [decide_eq_true h0, Bool.true_and] at hH
        exact upd_same hH
      · rw [if_neg h0]
    rw [hc]
    go_enter Tryd.func14, Tryd.ntmps14
    go_wp2_with (go_at_call 19; ((with_reducible refine ch.mono ?_); rintro e w' ⟨rfl, k, rfl⟩))
    go_ret
    exact ⟨rfl, grownBy_drewN _ _ _, h.drewN _⟩
  | true =>
    rw [hH] at ch
    have h0 : 0 ≤ i := by
      unfold hasI at hH
      by_cases h0 : 0 ≤ i
      · exact h0
      · rw [decide_eq_false h0] at hH; cases hH
    have hset : clrM M i = upd M i.toNat false := by unfold clrM; rw [if_pos h0]
    rw [hset]
    obtain ⟨q, rfl⟩ : ∃ q : Nat, i = q := ⟨i.toNat, by omega⟩
    have hM : M q = true := by unfold hasI at hH; rw [decide_eq_true (by omega), Bool.true_and, Int.toNat_natCast] at hH; exact hH
    rw [Int.toNat_natCast]
    have hqn : q < n := by
      rcases Nat.lt_or_ge q n with h' | h'
      · exact h'
      · rw [h.out q h'] at hM; cases hM
    have hs := h.small
    have c1 := h.c1
    have cb := fun w' => bit_any q (by omega) w'
    have hcell := h.row.cell (i := q / 64) (by omega)
    have hfz := h.row.frozen (q / 64)
    have hq : IntKind.i64.wrap ((q : Int) / 64) = ((q / 64 : Nat) : Int) := IntWalk.i64_in _ ⟨by omega, by omega⟩
    have hor := u64_andNot_nat (word M (q / 64)) (2 ^ (q % 64)) (word_lt _ _) (Nat.pow_lt_pow_right (by decide) (Nat.mod_lt _ (by decide)) : 2 ^ (q % 64) < 2 ^ 64)
    rw [word_clear] at hor
    have j0 : (0 : Int) ≤ ((q / 64 : Nat) : Int) := Int.natCast_nonneg _
    have j1 : ((q / 64 : Nat) : Int) < (((n + 63) / 64 : Nat) : Int) := by omega
    have hfin := fun W => h.store (W := W) (q := q) (by omega) false
    clear h hM hs hset h0 hH
    generalize ((word (upd M q false) (q / 64) : Nat) : Int) = R at *
    generalize ((2 ^ (q % 64) : Nat) : Int) = B at *
    generalize ((word M (q / 64) : Nat) : Int) = X at *
    generalize (n + 63) / 64 = m at *
    generalize q / 64 = j at *
    have hfin : Hid (∀ W : World, W.heap = (w.setCell ⟨b, j, none⟩ (.int .u64 R)).heap → W.os = w.os → W.tape = w.tape → W.output = w.output → w.grownBy W (some b) ∧ IsSet W p b n (upd M q false)) := hfin
    go_enter Tryd.func14, Tryd.ntmps14
    go_wp2_with (go_at_call 19; ((with_reducible refine ch.mono ?_); rintro e w' ⟨rfl, k, rfl⟩))
    go_region_with (go_at_call 48; ((with_reducible refine (cb _).mono ?_); rintro e w' ⟨rfl, rfl⟩))
    all_goals (go_wp2_with fail; go_ret; exact ⟨rfl, hfin.out _ rfl rfl rfl rfl⟩)
end Go.Proofs.YtoamabmnbldgkaaDoor
