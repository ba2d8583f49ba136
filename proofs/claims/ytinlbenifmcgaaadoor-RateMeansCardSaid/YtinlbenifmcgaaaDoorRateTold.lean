/- The law's own told of layer 31. -/
import Derived.Test.YtinlbenifmcgaaaDoorText4
namespace Go.Proofs.YtinlbenifmcgaaaDoor
open Go.RowKit Go.Lib Fx Ho Gr
set_option linter.unusedVariables false
namespace Pr
open Fk Fl Ieee Tm
variable {w w' : World} {x y r : Nat} {v : Value} {zs : List Nat}
instance (x : Nat) : Decidable (Wf x) := inferInstanceAs (Decidable (x < 18446744073709551616))
set_option maxRecDepth 100000 in
theorem zero_any (w : World) : Calls Tryd.prog 26 #[] w (Still (.float .f64 0) w) := by
  go_enter Tryd.func26, Tryd.ntmps26
  go_wp2_with fail
  go_ret
  exact ⟨rfl, rfl⟩
/-- Of one place with a number: equal to it. -/
theorem ord_key {a c : Nat} (ha : Wf a) (hc : Wf c) (nc : isN c = false) (h : key a = key c) : FloatKind.f64.format.order a c = some .eq := by
  have na : isN a = false := by
    cases e : isN a with
    | true => have := key_nan e; have := key_num nc; omega
    | false => rfl
  obtain ⟨o, k⟩ := cmp_any ha hc na nc
  cases o with
  | lt => have := k.lt rfl; omega
  | gt => have := k.gt rfl; omega
  | eq => exact k.o
theorem most_two {q : Nat} {M : List Nat} (hq : isN q = true) (h : MostOf [4607182418800017408, q, 4613937818241073152] 2 M) : ∃ a b, M = [a, b] ∧ key a = key 4613937818241073152 ∧ key b = key 4607182418800017408 := by
  have kq := key_nan hq
  have k3 : key 4607182418800017408 < key 4613937818241073152 := by
    obtain ⟨o, k⟩ := cmp_any (x := 4607182418800017408) (y := 4613937818241073152) (by decide) (by decide) (by decide +kernel) (by decide +kernel)
    have ho := k.o
    rw [show FloatKind.f64.format.order 4607182418800017408 4613937818241073152 = some .lt by decide +kernel] at ho
    cases ho
    exact k.lt rfl
  have kq2 : key q < key 4607182418800017408 := by
    rw [kq]
    exact key_num (by decide +kernel)
  have he := most_eq h (out := [4613937818241073152, 4607182418800017408, q]) (by
    refine (List.Perm.swap _ _ _).trans (List.Perm.cons _ (List.Perm.swap _ _ _))) (by
    unfold Fall
    simp only [List.pairwise_cons, List.mem_cons, List.not_mem_nil, or_false, forall_eq_or_imp, forall_eq, false_implies, implies_true, List.Pairwise.nil, and_true]
    omega)
  match M, he with
  | [a, b], he =>
    simp at he
    exact ⟨a, b, rfl, he.1, he.2⟩
theorem mean_three {q : Nat} (hq : isN q = true) : meanO [4607182418800017408, q, 4611686018427387904] = some 4609434218613702656 := by
  have n1 : isN 4607182418800017408 = false := by decide +kernel
  have n2 : isN 4611686018427387904 = false := by decide +kernel
  unfold meanO sumM
  simp only [List.foldl_cons, List.foldl_nil, stepM, hq, n1, n2, if_true, if_false, Bool.false_eq_true]
  decide +kernel
theorem text_255 : TextS 4598265291537823826 = ⟨#[50, 54, 37]⟩ := by decide +kernel
theorem text_0 : TextS 0 = ⟨#[48, 37]⟩ := by decide +kernel
/-- Three floats in a block of the call's own. -/
theorem fls3 {w : World} {b c1' c2 c3 : Nat} (hb : w.heap[b]? = some (.cells #[.float .f64 c1', .float .f64 c2, .float .f64 c3] 23 (0, 0))) (h1 : Wf c1') (h2 : Wf c2) (h3 : Wf c3) : Fls w (.slice (some ⟨b, 0, none⟩) 3 3) [c1', c2, c3] := by
  refine ⟨⟨some ⟨b, 0, none⟩, 3, rfl, by simp, fun i hi => ⟨b, 0, rfl, block_lt hb, ?_⟩⟩, fun x hx => ?_⟩
  · have hi3 : i < 3 := hi
    rw [Nat.zero_add]
    refine cell_of hb ?_
    match i, hi3 with
    | 0, _ => rfl
    | 1, _ => rfl
    | 2, _ => rfl
  · simp at hx
    rcases hx with rfl | rfl | rfl <;> assumption
set_option maxRecDepth 100000 in
set_option maxHeartbeats 4000000 in
theorem told_any (hT : Tab w) : Calls Tryd.prog 11 #[] w fun e w' => e = .returned (.bool true) ∧ Below w.heap.size w w' := by
  have hz := zero_any
  have hq : ∀ W, (binOp .quo 23 (.float .f64 0) (.float .f64 0)).run Tryd.prog W = .ok (.float .f64 (nanB W 0 0)) W.drew := fun W => run_none (by simp [four]) 23 0 0 (by decide) W
  have hN := nanB_ok w 0 0
  go_enter Tryd.func11, Tryd.ntmps11
  go_wp2_with (go_at_call 26; (with_reducible refine Calls.mono (hz _) ?_); rintro e w2 ⟨rfl, rfl⟩)
  obtain ⟨q, hqq⟩ : ∃ q, nanB w 0 0 = q := ⟨_, rfl⟩
  rw [hqq] at hN
  simp only [hqq]
  clear hqq hq
  obtain ⟨W1, hW1⟩ : ∃ W1, (w.alloc (.cells #[.float .f64 4607182418800017408, .float .f64 q, .float .f64 4613937818241073152] 23)).drew = W1 := ⟨_, rfl⟩
  have hB1 : Below w.heap.size w W1 := by rw [← hW1]; exact below_drewN (below_alloc (Below.refl _ _) _) 1
  have hF := fls3 (w := W1) (b := w.heap.size) (c1' := 4607182418800017408) (c2 := q) (c3 := 4613937818241073152) (by rw [← hW1]; exact heap_alloc_new _ _) (by decide) hN.1 (by decide)
  simp only [hW1]
  have cm := most_any hF (by simp) 2
  replace cm : Calls Tryd.prog 22 #[.slice (some ⟨w.heap.size, 0, none⟩) 3 3, .int .i64 2] W1 fun e w2 => ∃ sp cap a b, e = .returned (.slice sp 2 cap) ∧ Hid (∃ k o, sp = some ⟨k, o, none⟩ ∧ w2.cell? ⟨k, o, none⟩ = some (.float .f64 a) ∧ w2.cell? ⟨k, o + 1, none⟩ = some (.float .f64 b)) ∧ Hid (FloatKind.f64.format.order a 4613937818241073152 = some .eq ∧ FloatKind.f64.format.order b 4607182418800017408 = some .eq) ∧ Hid (Below w.heap.size w w2) := by
    refine cm.mono fun e w2 ⟨u, M, h1, h2, h3, h4⟩ => ?_
    obtain ⟨a, b, rfl, ka, kb⟩ := most_two hN.2 h3
    obtain ⟨⟨sp, cap, rfl, _, hi⟩, hw⟩ := h2
    obtain ⟨k, o, rfl, _, d0⟩ := hi 0 (by simp)
    obtain ⟨k1, o1, e1, _, d1⟩ := hi 1 (by simp)
    cases e1
    exact ⟨_, cap, a, b, h1, Lib.hid ⟨k, o, rfl, d0, d1⟩, Lib.hid ⟨ord_key (hw a (by simp)) (by decide) (by decide +kernel) ka, ord_key (hw b (by simp)) (by decide) (by decide +kernel) kb⟩, Lib.hid (hB1.trans (h4.mono hB1.size))⟩
  clear hF hW1
  go_wp2_with fail
  with_reducible refine Calls.mono (cm) ?_
  rintro e w2 ⟨sp, cap, a, b, rfl, hc, ho, hB2⟩
  obtain ⟨k, o, rfl, d0, d1⟩ := hc.out
  obtain ⟨oa, ob⟩ := ho.out
  clear cm hc ho hB1 hz
  have ct1 := fun (W : World) (hW : Below w.heap.size w W) => text_any 4598265291537823826 (by decide) (hT.below hW)
  have ct2 := fun (W : World) (hW : Below w.heap.size w W) => text_any 0 (by decide) (hT.below hW)
  simp only [text_255] at ct1
  simp only [text_0] at ct2
  have cz := zero_any
  have csh := fun W => share_any 1 2 W
  simp only [show floatBits .quo .f64 (floatOfInt .f64 1) (floatOfInt .f64 2) = some 4602678819172646912 by decide +kernel] at csh
  have cl := fun W => least_any q 4611686018427387904 hN.1 (by decide) W
  simp only [show lstP q 4611686018427387904 = 4611686018427387904 by unfold lstP; rw [if_pos hN.2]] at cl
  have cme := fun (W : World) (b : Nat) (hb : W.heap[b]? = some (.cells #[.float .f64 4607182418800017408, .float .f64 q, .float .f64 4611686018427387904] 23 (0, 0))) => mean_any (fls3 hb (by decide) hN.1 (by decide)) (by simp)
  simp only [mean_three hN.2] at cme
  have o5 : FloatKind.f64.format.order 4602678819172646912 4602678819172646912 = some .eq := by decide +kernel
  have o6 : FloatKind.f64.format.order 4609434218613702656 4609434218613702656 = some .eq := by decide +kernel
  have o7 : FloatKind.f64.format.order 4611686018427387904 4611686018427387904 = some .eq := by decide +kernel
  clear hN
  go_wp2_with fail
  with_reducible refine Calls.mono (ct1 _ hB2.out) ?_
  rintro e w3 ⟨rfl, hb3⟩
  have hB3 := Lib.hid (hB2.out.trans (hb3.mono hB2.out.size))
  clear hb3 hB2 ct1
  go_wp2_with fail
  with_reducible refine Calls.mono (cz _) ?_
  rintro e w4 ⟨rfl, rfl⟩
  clear cz
  go_wp2_with fail
  with_reducible refine Calls.mono (ct2 _ hB3.out) ?_
  rintro e w4 ⟨rfl, hb4⟩
  have hB4 := Lib.hid (hB3.out.trans (hb4.mono hB3.out.size))
  clear hb4 hB3 ct2
  go_wp2_with fail
  with_reducible refine Calls.mono (csh _) ?_
  rintro e w5 ⟨y, n5, rfl, rfl, -, -, hy⟩
  obtain rfl := hy _ rfl
  have hB5 := Lib.hid (below_drewN hB4.out n5)
  generalize w4.drewN n5 = w5 at *
  clear hB4 csh
  have cme5 := cme (w5.alloc (.cells #[.float .f64 4607182418800017408, .float .f64 q, .float .f64 4611686018427387904] 23)) w5.heap.size (heap_alloc_new _ _)
  clear cme
  go_wp2_with fail
  with_reducible refine Calls.mono (cme5) ?_
  rintro e w6 ⟨y, n6, rfl, rfl, -, -, hy⟩
  obtain rfl := hy _ rfl
  have hB6 := Lib.hid (below_drewN (below_alloc hB5.out (.cells #[.float .f64 4607182418800017408, .float .f64 q, .float .f64 4611686018427387904] 23)) n6)
  clear cme5 hB5
  go_wp2_with fail
  with_reducible refine Calls.mono (cl _) ?_
  rintro e w7 ⟨rfl, rfl⟩
  go_wp2_with fail
  go_ret
  exact ⟨rfl, hB6.out⟩
end Pr
end Go.Proofs.YtinlbenifmcgaaaDoor
