/- What the document's own Has answers of a list, and the statement's own next of the list of a set's members. -/
import Derived.Test.YtoamabmnbldgkaaDoorSetInts
namespace Go.Proofs.YtoamabmnbldgkaaDoor
open Go.ChangeShapes Go.WideShapes Go.WideElems Go.RowKit Go.Lib Fx Bm
set_option linter.unusedVariables false

set_option maxRecDepth 100000 in
set_option maxHeartbeats 1000000 in
theorem rhas_any {w : World} {lo : Nat} {v : Value} {zs : List Int} (x : Int) (h : IntsAt w lo v zs) : Calls Tryd.prog 11 #[v, .int .i64 x] w (Same (.bool (decide (x ∈ zs))) w) := by
  obtain ⟨sp, cap, rfl, hm, hc⟩ := h
  obtain ⟨m, hme⟩ : ∃ m, zs.length = m := ⟨_, rfl⟩
  have hin : Hid (∀ i, i < m → zs.getD i 0 = x → decide (x ∈ zs) = true) := fun i hi e => decide_eq_true (by
    rw [← e, List.getD_eq_getElem?_getD, List.getElem?_eq_getElem (by omega)]; exact List.getElem_mem _)
  have hout : Hid ((∀ i, i < m → zs.getD i 0 ≠ x) → decide (x ∈ zs) = false) := fun hn => decide_eq_false fun hx => by
    obtain ⟨i, hi, e⟩ := List.getElem_of_mem hx
    refine hn i (by omega) ?_
    rw [List.getD_eq_getElem?_getD, List.getElem?_eq_getElem hi]; exact e
  rw [hme] at hm hc ⊢
  have hc : Hid _ := hc
  generalize decide (x ∈ zs) = res at *
  clear hme
  go_enter Tryd.func11, Tryd.ntmps11
  go_wp2_with fail
  go_loopw [5] (fun u wr => ∃ i : Nat, u = .int .i64 i ∧ i ≤ m ∧ Hid (∀ j, j < i → zs.getD j 0 ≠ x) ∧ wr = w) (fun u _ => (m - (intOf u).toNat))
  case atStart => exact ⟨0, rfl, by omega, fun j h => by omega, rfl⟩
  case round =>
    obtain ⟨i, rfl, i1, hno, rfl⟩ := hrel
    by_cases hi : i < m
    · obtain ⟨b1, o1, rfl, _, _, k1⟩ := hc.out i hi
      have i2 : (i : Int) < (m : Int) := by omega
      by_cases hx : zs.getD i 0 = x
      · have hr := hin.out i hi hx
        rw [hx] at k1
        rw [hr]
        clear hin hout hno hx hr
        go_wp2_with fail
        go_ret
        exact ⟨rfl, rfl⟩
      · have hno2 : Hid (∀ j, j < i + 1 → zs.getD j 0 ≠ x) := fun j hj => by
          by_cases e : j = i
          · subst e; exact hx
          · exact hno.out j (by omega)
        have hx2 : (zs.getD i 0 == x) = false := by rw [beq_eq_false_iff_ne]; exact hx
        generalize zs.getD i 0 = y at *
        clear hin hout hno
        go_wp2_with fail
        go_roundw
        case rel => exact ⟨i + 1, by go_num, by omega, hno2, by first | rfl | trivial⟩
        case measure => simp [intOf]; omega
    · obtain rfl : m = i := by omega
      have hr := hout.out hno.out
      go_wp2_with fail
      go_ret
      exact ⟨by rw [hr]; rfl, rfl⟩

/-- The list of a set's members holds a number just where it is in the set. -/
theorem mem_ints {M : Nat → Bool} {n : Nat} (hM : ∀ i, n ≤ i → M i = false) (x : Int) : decide (x ∈ (mem M n).map fun (k : Nat) => (k : Int)) = hasI M x := by
  have key : (x ∈ (mem M n).map fun (k : Nat) => (k : Int)) ↔ hasI M x = true := by
    rw [List.mem_map]
    constructor
    · rintro ⟨k, hk, rfl⟩
      unfold mem at hk
      have := (List.mem_filter.1 hk).2
      unfold hasI
      rw [decide_eq_true (by omega), Bool.true_and, Int.toNat_natCast]; exact this
    · intro h
      unfold hasI at h
      rw [Bool.and_eq_true, decide_eq_true_iff] at h
      refine ⟨x.toNat, ?_, by omega⟩
      unfold mem
      refine List.mem_filter.2 ⟨List.mem_range.2 ?_, h.2⟩
      rcases Nat.lt_or_ge x.toNat n with h' | h'
      · exact h'
      · rw [hM _ h'] at h; cases h.2
  cases hh : hasI M x with
  | true => exact decide_eq_true (key.2 hh)
  | false => exact decide_eq_false fun hx => by have := key.1 hx; rw [hh] at this; cases this
set_option maxRecDepth 100000 in
set_option maxHeartbeats 1000000 in
theorem lnext_any {w : World} {lo n : Nat} {v : Value} {M : Nat → Bool} (hn : n ≤ 300) (hM : ∀ i, n ≤ i → M i = false) (i : Int) (has : Bool) (h : IntsAt w lo v ((mem M n).map fun (k : Nat) => (k : Int))) : Calls Tryd.prog 17 #[v, .int .i64 n, .int .i64 i, .bool has] w (Same (.int .i64 (nextI M n i.toNat has)) w) := by
  have ch : ∀ k : Nat, Calls Tryd.prog 11 #[v, .int .i64 k] w (Same (.bool (M k)) w) := fun k => by
    have := rhas_any (k : Int) h
    rw [mem_ints hM] at this
    unfold hasI at this
    rwa [decide_eq_true (by omega), Bool.true_and, Int.toNat_natCast] at this
  have ch : Hid _ := ch
  clear h hM
  obtain ⟨q, hq⟩ : ∃ q : Nat, i.toNat = q := ⟨_, rfl⟩
  rw [hq]
  by_cases h0 : i < 0
  · obtain rfl : q = 0 := by omega
    go_enter Tryd.func17, Tryd.ntmps17
    go_wp2_with fail
    go_loopw [9] (fun u wr => ∃ k : Nat, u = .int .i64 k ∧ k ≤ n ∧ Hid (∀ r, 0 ≤ r → r < k → M r ≠ has) ∧ wr = w) (fun u _ => (n - (intOf u).toNat))
    case atStart => exact ⟨0, rfl, by omega, fun r _ h => by omega, rfl⟩
    case round =>
      obtain ⟨k, rfl, k1, hno, rfl⟩ := hrel
      by_cases hk : k < n
      · have c := ch.out k
        by_cases hx : M k = has
        · have hr := next_is (M := M) (n := n) (i := 0) (Nat.zero_le k) hk hx hno.out
          rw [hx] at c
          rw [hr]
          clear hr hno hx
          cases has
          all_goals
            go_wp2_with fail
            with_reducible refine Calls.mono c ?_
            rintro e w' ⟨rfl, rfl⟩
            go_wp2_with fail
            go_ret
            exact ⟨rfl, rfl⟩
        · have hno2 : Hid (∀ r, 0 ≤ r → r < k + 1 → M r ≠ has) := fun r h1 h2 => by
            by_cases e : r = k
            · subst e; exact hx
            · exact hno.out r h1 (by omega)
          have hx2 : M k = !has := by cases hb : M k <;> cases has <;> simp_all
          rw [hx2] at c
          clear hx hx2 hno
          cases has
          all_goals
            go_wp2_with fail
            with_reducible refine Calls.mono c ?_
            rintro e w' ⟨rfl, rfl⟩
            go_wp2_with fail
            go_roundw
            case rel => exact ⟨k + 1, by go_num, by omega, hno2, by first | rfl | trivial⟩
            case measure => simp [intOf]; omega
      · have hr := next_not (M := M) (n := n) (i := 0) (has := has) fun r h1 h2 => hno.out r h1 (by omega)
        go_wp2_with fail
        go_ret
        exact ⟨by rw [hr]; rfl, rfl⟩
  · obtain rfl : i = (q : Int) := by omega
    by_cases hqn : q ≤ n
    · go_enter Tryd.func17, Tryd.ntmps17
      go_wp2_with fail
      go_loopw [9] (fun u wr => ∃ k : Nat, u = .int .i64 k ∧ q ≤ k ∧ k ≤ n ∧ Hid (∀ r, q ≤ r → r < k → M r ≠ has) ∧ wr = w) (fun u _ => (n - (intOf u).toNat))
      case atStart => exact ⟨q, rfl, by omega, hqn, fun r _ h => by omega, rfl⟩
      case round =>
        obtain ⟨k, rfl, k0, k1, hno, rfl⟩ := hrel
        by_cases hk : k < n
        · have c := ch.out k
          by_cases hx : M k = has
          · have hr := next_is (M := M) (n := n) k0 hk hx hno.out
            rw [hx] at c
            rw [hr]
            clear hr hno hx
            cases has
            all_goals
              go_wp2_with fail
              with_reducible refine Calls.mono c ?_
              rintro e w' ⟨rfl, rfl⟩
              go_wp2_with fail
              go_ret
              exact ⟨rfl, rfl⟩
          · have hno2 : Hid (∀ r, q ≤ r → r < k + 1 → M r ≠ has) := fun r h1 h2 => by
              by_cases e : r = k
              · subst e; exact hx
              · exact hno.out r h1 (by omega)
            have hx2 : M k = !has := by cases hb : M k <;> cases has <;> simp_all
            rw [hx2] at c
            clear hx hx2 hno
            cases has
            all_goals
              go_wp2_with fail
              with_reducible refine Calls.mono c ?_
              rintro e w' ⟨rfl, rfl⟩
              go_wp2_with fail
              go_roundw
              case rel => exact ⟨k + 1, by go_num, by omega, by omega, hno2, by first | rfl | trivial⟩
              case measure => simp [intOf]; omega
        · have hr := next_not (M := M) (n := n) (i := q) (has := has) fun r h1 h2 => hno.out r h1 (by omega)
          go_wp2_with fail
          go_ret
          exact ⟨by rw [hr]; rfl, rfl⟩
    · have hr := next_not (M := M) (n := n) (i := q) (has := has) fun r h1 h2 => by omega
      rw [hr]
      have hd : ¬ (q : Int) < (n : Int) := by omega
      go_enter Tryd.func17, Tryd.ntmps17
      go_wp2_with fail
      refine wp_loop_rounds 1 ?_
      rw [rounds_succ]
      go_wp2_with fail
      go_ret
      exact ⟨rfl, rfl⟩
end Go.Proofs.YtoamabmnbldgkaaDoor
