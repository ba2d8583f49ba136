/- Two rings: what Steal of package ring answers and makes. -/
import Derived.Test.YtpclacaiabbmjaaRingDel
import Derived.LaidEqlPtr
import Derived.Deep.QuietTactic
import Derived.BigQuiet
namespace Go.Proofs.Ytpclacaiabbmjaa
open Go.RowKit Go.Lib Fx Ho
set_option linter.unusedVariables false
namespace Ri
variable {p q : Nat} {L M : List Int} {nx ny : Option Int} {w w' W : World}
abbrev both (p q : Nat) : Home := fun k => k = p ∨ k = q
theorem wrote_left {a b : World} (h : Wrote (at_ p) a (at_ p) b) : Wrote (both p q) a (both p q) b :=
  ⟨h.os, h.tape, h.output, h.size, fun k hk hn => h.block k hk (fun e => hn (Or.inl e)), fun _ h => Or.inl h⟩
theorem wrote_right {a b : World} (h : Wrote (at_ q) a (at_ q) b) : Wrote (both p q) a (both p q) b :=
  ⟨h.os, h.tape, h.output, h.size, fun k hk hn => h.block k hk (fun e => hn (Or.inr e)), fun _ h => Or.inl h⟩
/-- The call answers r; of what there was the two rings alone have turned. -/
def Turns2 (r : Value) (w : World) (p q : Nat) (nx : Option Int) (L : List Int) (ny : Option Int) (M : List Int) (e : Ending) (w' : World) : Prop :=
  e = .returned r ∧ Wrote (both p q) w (both p q) w' ∧ IsRing w' p nx L ∧ IsRing w' q ny M
theorem infoR : ((Try.prog.info? 127).map (·.size)) = some 260 := by kernel_rfl
theorem eq_same (w : World) : (binOp .eql 79 (.pointer (some ⟨p, 0, none⟩)) (.pointer (some ⟨p, 0, none⟩))).run Try.prog w = .ok (.bool true) w := by
  obtain ⟨j, hj, _⟩ := Option.map_eq_some_iff.1 infoR
  exact run_eql_ptr_same w _ Try.underlying79 hj
theorem eq_other (hpq : p ≠ q) (h : IsRing w p nx L) (h2 : IsRing w q ny M) : (binOp .eql 79 (.pointer (some ⟨p, 0, none⟩)) (.pointer (some ⟨q, 0, none⟩))).run Try.prog w = .ok (.bool false) w := by
  obtain ⟨j, hj, hs⟩ := Option.map_eq_some_iff.1 infoR
  obtain ⟨A, F, a, y, b, h, _⟩ := h
  obtain ⟨A2, F2, a2, y2, b2, h2, _⟩ := h2
  exact run_eql_ptr_other w Try.underlying79 hj (by omega) (fun e => hpq (congrArg Addr.block e)) h.head h2.head
set_option maxRecDepth 100000 in
theorem steal_same (w : World) : Calls Try.prog 105 #[.pointer (some ⟨p, 0, none⟩), .pointer (some ⟨p, 0, none⟩)] w (Still (.int .i64 0) w) := by
  have he := eq_same (p := p) w
  go_enter Try.func105, Try.ntmps105
  go_wp2_with fail
  go_ret
  exact ⟨rfl, rfl⟩
set_option maxRecDepth 100000 in
theorem steal_nil (w : World) : Calls Try.prog 105 #[.pointer (some ⟨p, 0, none⟩), .pointer none] w (Still (.int .i64 0) w) := by
  go_enter Try.func105, Try.ntmps105
  go_wp2_with fail
  go_ret
  exact ⟨rfl, rfl⟩
theorem push_ring (g : Int) (hl : L.length < 256) (w : World) (h : IsRing w p nx L) : Calls Try.prog 102 #[.pointer (some ⟨p, 0, none⟩), .int .i64 g] w (Turns (.tuple #[]) w p nx (L ++ [g])) := by
  obtain ⟨A, F, a, y, b, h, rfl⟩ := h
  exact push_any g hl w h
theorem room_ring (w : World) (h : IsRing w p nx L) : Calls Try.prog 101 #[.pointer (some ⟨p, 0, none⟩)] w (Still (.int .i64 (256 - (L.length : Int))) w) := by
  obtain ⟨A, F, a, y, b, h, rfl⟩ := h
  exact room_any w h
set_option maxRecDepth 100000 in
set_option maxHeartbeats 1000000 in
theorem steal_next {y : Int} (hpq : p ≠ q) (hl : L.length < 256) (w : World) (h : IsRing w p nx L) (h2 : IsRing w q (some y) []) : Calls Try.prog 105 #[.pointer (some ⟨p, 0, none⟩), .pointer (some ⟨q, 0, none⟩)] w (Turns2 (.int .i64 1) w p q nx (L ++ [y]) none []) := by
  have cr := room_ring w h
  have cp := push_ring y hl w h
  have he := eq_other hpq h h2
  obtain ⟨A, F, a, y', b, g, hb⟩ := h2
  cases b with
  | false => cases hb
  | true =>
    obtain rfl : y = y' := Option.some.inj hb
    have c2 := g.c2
    have c3 := g.c3
    have c4 := g.c4
    have key : Hid (∀ W1, Wrote (at_ p) w (at_ p) W1 → IsRing W1 p nx (L ++ [y]) → W1.cell? ⟨q, 259, none⟩ = some (.bool true) ∧ W1.frozen? ⟨q, 259, none⟩ = false ∧ Hid (∀ W, W.heap = (W1.setCell ⟨q, 259, none⟩ (.bool false)).heap → W.os = W1.os → W.tape = W1.tape → W.output = W1.output → Wrote (both p q) w (both p q) W ∧ IsRing W p nx (L ++ [y]) ∧ IsRing W q none [])) := by
      intro W1 ht hr
      have g1 := g.wrote ht (fun e => hpq e.symm)
      refine ⟨g1.c4, g1.fz _, fun W a1 a2 a3 a4 => ?_⟩
      have hw : Wrote (at_ q) W1 (at_ q) W := wrote_setCell (H := at_ q) a1 a2 a3 a4 rfl
      exact ⟨(wrote_left ht).trans (wrote_right hw), hr.wrote hw hpq, (g1.unnexted.of_heap a1).is_⟩
    have hd : decide ((0 : Int) < 256 - (L.length : Int)) = true := decide_eq_true (by omega)
    have hpos : (0 : Int) < 256 - (L.length : Int) := by omega
    clear g hb
    generalize L.length = n at *
    unfold Turns2
    go_enter Try.func105, Try.ntmps105
    go_wp2_with fail
    with_reducible refine Calls.mono cr ?_
    rintro e w1 ⟨rfl, rfl⟩
    go_wp2_with fail
    with_reducible refine Calls.mono cp ?_
    rintro e w2 ⟨rfl, ht, hr⟩
    obtain ⟨f1, f2, hfin⟩ := key.out w2 ht hr
    clear key ht hr cr cp
    go_wp2_with fail
    go_ret
    exact ⟨rfl, hfin.out _ rfl rfl rfl rfl⟩
set_option maxRecDepth 100000 in
set_option maxHeartbeats 2000000 in
theorem steal_row (N : Nat) (hpq : p ≠ q) (hN : N = min (M.length - M.length / 2) (256 - L.length)) (hcond : M.length = 0 → ny = none ∨ L.length = 256) (w : World) (h : IsRing w p nx L) (h2 : IsRing w q ny M) : Calls Try.prog 105 #[.pointer (some ⟨p, 0, none⟩), .pointer (some ⟨q, 0, none⟩)] w (Turns2 (.int .i64 N) w p q nx (L ++ M.take N) ny (M.drop N)) := by
  have hs := h.small
  have hs2 := h2.small
  have hp := h.lt
  have hq := h2.lt
  have he := eq_other hpq h h2
  have hre : ∀ (c : Nat), IsRing (w.drewN c) p nx L := fun c => by obtain ⟨A, F, a, y, b, h, e⟩ := h; exact ⟨A, F, a, y, b, h.of_heap rfl, e⟩
  have hre2 : ∀ (c : Nat), IsRing (w.drewN c) q ny M := fun c => by obtain ⟨A, F, a, y, b, h, e⟩ := h2; exact ⟨A, F, a, y, b, h.of_heap rfl, e⟩
  have cr : Hid (∀ c, Calls Try.prog 101 #[.pointer (some ⟨p, 0, none⟩)] (w.drewN c) (Ans (.int .i64 (256 - (L.length : Int))) (w.drewN c))) := fun c => ans_of_same (room_ring (w.drewN c) (hre c))
  have cr0 := room_ring w h
  have cs : Hid (∀ c, Calls Try.prog 103 #[.pointer (some ⟨q, 0, none⟩), .int .i64 N] (w.drewN c) fun e w' => ∃ v', e = .returned v' ∧ Hid (Wrote (both p q) w (both p q) w') ∧ Hid (IsRing w' p nx (L ++ M.take 0)) ∧ Hid (IsRing w' q ny (M.drop N)) ∧ w'.ownsRow w.heap.size 3 1 v' N (cells (M.take N))) := fun c => by
    obtain ⟨A, F, a, y, b, g, e⟩ := hre2 c
    refine (shift_any N (by omega) _ g).mono ?_
    rintro e' w' ⟨v', h1, h2, h3, h4⟩
    refine ⟨v', h1, ⟨h2.os, h2.tape, h2.output, h2.size, fun k hk hn => h2.block k hk (fun e => hn (Or.inr e)), fun _ h => Or.inl h⟩, ?_, by rw [e]; exact h3, h4⟩
    rw [show L ++ M.take 0 = L from List.append_nil _]
    exact (hre c).wrote h2 hpq
  have htake : Hid (∀ i, i < N → M.take (i + 1) = M.take i ++ [M.getD i 0]) := fun i hi => by
    rw [List.take_succ_eq_append_getElem (by omega), List.getD_eq_getElem?_getD, List.getElem?_eq_getElem (by omega)]; rfl
  have hget : Hid (∀ i, i < N → (M.take N).getD i 0 = M.getD i 0) := fun i hi => by
    rw [List.getD_eq_getElem?_getD, List.getD_eq_getElem?_getD, List.getElem?_take_of_lt hi]
  have hfit : Hid (∀ i, i < N → (L ++ M.take i).length < 256) := fun i hi => by rw [List.length_append, List.length_take]; omega
  obtain ⟨A, F, a, y, b, g, hny⟩ := h2
  have c2 := g.c2
  have c4 := g.c4
  have hcond2 : M.length = 0 → b = false ∨ (L.length : Int) = 256 := fun h0 => by
    rcases hcond h0 with h1 | h1
    · left
      cases b with
      | false => rfl
      | true => rw [h1] at hny; cases hny
    · right; omega
  obtain ⟨hf, hhf⟩ : ∃ hf, M.length / 2 = hf := ⟨_, rfl⟩
  obtain ⟨m, hm⟩ : ∃ m, M.length = m := ⟨_, rfl⟩
  obtain ⟨l, hl⟩ : ∃ l, L.length = l := ⟨_, rfl⟩
  rw [hhf, hm, hl] at hN
  rw [hm] at c2 hs2 hcond2 hhf
  rw [hl] at hcond2 hs cr cr0
  have e1 : (m : Int) / 2 = (hf : Int) := by omega
  have e2 : (m : Int).tdiv 2 = (hf : Int) := by rw [Int.tdiv_eq_ediv_of_nonneg (by omega)]; exact e1
  have e3 : IntKind.i64.wrap ((m : Int).tdiv 2) = (hf : Int) := by rw [e2]; exact IntWalk.i64_in _ ⟨by omega, by omega⟩
  have e4 : IntKind.i64.wrap ((m : Int) - (hf : Int)) = (m : Int) - (hf : Int) := IntWalk.i64_in _ ⟨by omega, by omega⟩
  have e5 : (if 256 - (l : Int) < (m : Int) - (hf : Int) then 256 - (l : Int) else (m : Int) - (hf : Int)) = (N : Int) := by split <;> omega
  have hguard : (((m : Int) == 0) = false) ∨ (((m : Int) == 0) = true ∧ b = false) ∨ (((m : Int) == 0) = true ∧ b = true ∧ (l : Int) = 256) := by
    by_cases h0 : m = 0
    · rcases hcond2 h0 with h1 | h1
      · exact Or.inr (Or.inl ⟨by rw [beq_iff_eq]; omega, h1⟩)
      · cases b with
        | false => exact Or.inr (Or.inl ⟨by rw [beq_iff_eq]; omega, rfl⟩)
        | true => exact Or.inr (Or.inr ⟨by rw [beq_iff_eq]; omega, rfl, h1⟩)
    · exact Or.inl (by rw [beq_eq_false_iff_ne]; omega)
  clear g hny hcond hcond2 hre hre2 h hhf hm hl
  have hN256 : N ≤ 256 := by omega
  replace hN := Lib.hid hN
  unfold Turns2
  rcases hguard with g1 | ⟨g1, rfl⟩ | ⟨g1, rfl, g2⟩
  rotate_left 2
  · obtain rfl : m = 0 := by rw [beq_iff_eq] at g1; omega
    obtain rfl : hf = 0 := by omega
    obtain rfl : l = 256 := by omega
    obtain rfl : N = 0 := by have := hN.out; omega
    clear e1 e2 e3 e4 e5 g1 g2
    go_enter Try.func105, Try.ntmps105
    go_wp2_with (go_at_call 101; ((with_reducible refine cr0.mono ?_); rintro e w1 ⟨rfl, rfl⟩))
    go_quiet ((go_at_call 101; refine quiet_ans1 (cr.out _)))
    have cs2 := cs.out nq
    generalize w.drewN nq = w2 at *
    clear cs cr cr0 c2 c4 he
    go_wp2_with fail
    refine Calls.mono cs2 ?_
    rintro e w3 ⟨v', rfl, h1, h3, h4, h5⟩
    obtain ⟨sp, cap, rfl⟩ := own_slice h5
    clear cs2 h5
    go_wp2_with fail
    go_loopw [61] (fun i wr => i = .int .i64 0 ∧ wr = w3) (fun i _ => 0)
    case atStart => exact ⟨rfl, rfl⟩
    case round =>
      obtain ⟨rfl, rfl⟩ := hrel
      go_wp2_with fail
      go_ret
      exact ⟨rfl, h1.out, h3.out, h4.out⟩
  all_goals
    go_enter Try.func105, Try.ntmps105
    go_wp2_with (go_at_call 101; ((with_reducible refine cr0.mono ?_); rintro e w1 ⟨rfl, rfl⟩))
    go_quiet ((go_at_call 101; refine quiet_ans1 (cr.out _)))
    have cs2 := cs.out nq
    generalize w.drewN nq = w2 at *
    clear cs cr cr0 e1 e2 e3 e4 e5 c2 c4 he
    go_wp2_with fail
    with_reducible refine Calls.mono cs2 ?_
    rintro e w3 ⟨v', rfl, h1, h3, h4, h5⟩
    obtain ⟨sp, cap, rfl⟩ := own_slice h5
    replace h5 := Lib.hid h5
    clear cs2
    go_wp2_with fail
    go_loopw [61] (fun i wr => ∃ k : Nat, i = .int .i64 k ∧ k ≤ N ∧ Hid (Wrote (both p q) w (both p q) wr) ∧ Hid (IsRing wr p nx (L ++ M.take k)) ∧ Hid (IsRing wr q ny (M.drop N)) ∧ Hid (wr.ownsRow w.heap.size 3 1 (.slice sp N cap) N (cells (M.take N)))) (fun i _ => (N - (intOf i).toNat))
    case atStart => exact ⟨0, rfl, by omega, h1, h3, h4, h5⟩
    case round =>
      obtain ⟨k, rfl, k1, r1, r3, r4, r5⟩ := hrel
      clear h1 h3 h4 h5
      by_cases hk : k < N
      · have i2 : (k : Int) < (N : Int) := by omega
        have i3 : (0 : Int) ≤ (k : Int) := by omega
        obtain ⟨b1, cap1, hv, b2, b3, b4, b5⟩ := own_at r5.out hk
        obtain ⟨rfl, rfl⟩ : sp = some ⟨b1, 0, none⟩ ∧ cap = cap1 := by simpa using hv
        rw [hget.out k hk] at b4
        have ht := htake.out k hk
        have cp := push_ring (M.getD k 0) (hfit.out k hk) wr r3.out
        rw [List.append_assoc, ← ht] at cp
        have hkeep : Hid (∀ W, Wrote (at_ p) wr (at_ p) W → Hid (Wrote (both p q) w (both p q) W) ∧ Hid (IsRing W q ny (M.drop N)) ∧ Hid (W.ownsRow w.heap.size 3 1 (.slice (some ⟨b1, 0, none⟩) N cap) N (cells (M.take N)))) := fun W hw =>
          ⟨r1.out.trans (wrote_left hw), r4.out.wrote hw (fun e => hpq e.symm), r5.out.kept (row := some p) ⟨hw.os, hw.tape, hw.output, hw.size, fun k hk hne => hw.block k hk (fun e => hne (by rw [show k = p from e]))⟩ (Or.inr fun e => by have := (r5.out.lt p e).1; omega)⟩
        generalize M.getD k 0 = x at *
        clear ht r1 r3 r4 r5 hv b5
        go_wp2_with fail
        with_reducible refine Calls.mono cp ?_
        rintro e w4 ⟨rfl, hw4, hr4⟩
        obtain ⟨s1, s4, s5⟩ := hkeep.out w4 hw4
        replace hr4 := Lib.hid hr4
        clear cp hkeep hw4
        go_wp2_with fail
        go_roundw
        case rel => exact ⟨k + 1, by go_num, by omega, s1, hr4, s4, s5⟩
        case measure => simp [intOf]; omega
      · obtain rfl : k = N := by omega
        clear r5
        go_wp2_with fail
        go_ret
        exact ⟨rfl, r1.out, r3.out, r4.out⟩

/-- Two rings that a statement made, and all else as it was. -/
structure Rt (W0 w : World) (p q : Nat) (nx : Option Int) (L : List Int) (ny : Option Int) (M : List Int) : Prop where
  r : IsRing w p nx L
  s : IsRing w q ny M
  lo : W0.heap.size ≤ p ∧ W0.heap.size ≤ q
  ne : p ≠ q
  bel : Below W0.heap.size W0 w
namespace Rt
variable {W0 : World} {nx' ny' : Option Int} {L' M' : List Int}
theorem left (h : Rt W0 w p q nx L ny M) (ht : Wrote (at_ p) w (at_ p) w') (hr : IsRing w' p nx' L') : Rt W0 w' p q nx' L' ny M :=
  ⟨hr, h.s.wrote ht (fun e => h.ne e.symm), h.lo, h.ne, ht.below (fun k hk => by rw [show k = p from hk]; exact h.lo.1) h.bel⟩
theorem right (h : Rt W0 w p q nx L ny M) (ht : Wrote (at_ q) w (at_ q) w') (hr : IsRing w' q ny' M') : Rt W0 w' p q nx L ny' M' :=
  ⟨h.r.wrote ht h.ne, hr, h.lo, h.ne, ht.below (fun k hk => by rw [show k = q from hk]; exact h.lo.2) h.bel⟩
theorem two (h : Rt W0 w p q nx L ny M) (ht : Wrote (both p q) w (both p q) w') (hr : IsRing w' p nx' L') (hs : IsRing w' q ny' M') : Rt W0 w' p q nx' L' ny' M' :=
  ⟨hr, hs, h.lo, h.ne, ht.below (fun k hk => hk.elim (fun e => e ▸ h.lo.1) (fun e => e ▸ h.lo.2)) h.bel⟩
theorem below (h : Rt W0 w p q nx L ny M) (hb : Below w.heap.size w w') : Rt W0 w' p q nx L ny M :=
  ⟨h.r.wrote (H := fun _ => False) (Wrote.of_below hb) (fun h => h), h.s.wrote (H := fun _ => False) (Wrote.of_below hb) (fun h => h), h.lo, h.ne, h.bel.trans (hb.mono h.bel.size)⟩
end Rt
section
variable {W0 : World}
theorem rt_put_left (g : Int) (h : Rt W0 w p q nx L ny M) (hl : L.length < 256) : Calls Try.prog 61 #[.pointer (some ⟨p, 0, none⟩), .int .i64 g, .bool false] w fun e w' => e = .returned (.slice none 0 0) ∧ Rt W0 w' p q nx (L ++ [g]) ny M :=
  (put_row g hl w h.r).mono fun _ _ ⟨he, ht, hr⟩ => ⟨he, h.left ht hr⟩
theorem rt_put_right (g : Int) (h : Rt W0 w p q nx L ny M) (hl : M.length < 256) : Calls Try.prog 61 #[.pointer (some ⟨q, 0, none⟩), .int .i64 g, .bool false] w fun e w' => e = .returned (.slice none 0 0) ∧ Rt W0 w' p q nx L ny (M ++ [g]) :=
  (put_row g hl w h.s).mono fun _ _ ⟨he, ht, hr⟩ => ⟨he, h.right ht hr⟩
theorem rt_first_right (g : Int) (h : Rt W0 w p q nx L none M) : Calls Try.prog 61 #[.pointer (some ⟨q, 0, none⟩), .int .i64 g, .bool true] w fun e w' => e = .returned (.slice none 0 0) ∧ Rt W0 w' p q nx L (some g) M :=
  (put_first g w h.s).mono fun _ _ ⟨he, ht, hr⟩ => ⟨he, h.right ht hr⟩
theorem rt_all_left (h : Rt W0 w p q nx L ny M) : Calls Try.prog 74 #[.pointer (some ⟨p, 0, none⟩)] w fun e w' => ∃ v', e = .returned v' ∧ Rt W0 w' p q nx L ny M ∧ Ints w' (fun k => w.heap.size ≤ k) v' (allOf nx L) ∧ Below w.heap.size w w' :=
  (all_any w h.r).mono fun _ _ ⟨v', he, hb, ho⟩ => ⟨v', he, h.below hb, (ints_of_owns ho).wider (fun k hk _ => (ho.lt k hk).1), hb⟩
theorem rt_all_right (h : Rt W0 w p q nx L ny M) : Calls Try.prog 74 #[.pointer (some ⟨q, 0, none⟩)] w fun e w' => ∃ v', e = .returned v' ∧ Rt W0 w' p q nx L ny M ∧ Ints w' (fun k => w.heap.size ≤ k) v' (allOf ny M) ∧ Below w.heap.size w w' :=
  (all_any w h.s).mono fun _ _ ⟨v', he, hb, ho⟩ => ⟨v', he, h.below hb, (ints_of_owns ho).wider (fun k hk _ => (ho.lt k hk).1), hb⟩
end
end Ri
end Go.Proofs.Ytpclacaiabbmjaa
