/- For any three whole numbers the statement TimerTwice answers true and leaves its arguments as they were: who sleeps twice wakes twice, each at its time; taken out it is the earlier one that goes. No condition. -/
import Derived.Test.YtinlbenifmcgaaaTimerDel
import Derived.WalkKit
import Derived.ProofKit
import Derived.OpenShut
import Derived.Deep.RegionHeld3
import Derived.Deep.RegionWith
import Derived.Deep.Cut
import Derived.Deep.CutBlock
import Derived.Deep.CutRange
import Derived.Deep.LoopGhost
import Derived.Deep.DeepCutAuto
import Derived.RegionTactic
import Derived.StillTailTactics
namespace Go.Proofs.Ytinlbenifmcgaaa.timerTwice
open Go.ChangeShapes Go.WideShapes Go.ChangeAt Go.WideElems Go.RowKit Go.Lib Fx Ho Pt
set_option linter.unusedVariables false

theorem own : ownKnob Try.prog.godebug = none := by kernel_rfl

/-- How many of the first i are of g 1. -/
def cn (D : List Sl) (i : Nat) : Nat := (D.take i).countP fun s => decide (s.2.1 = 1)
theorem cn_zero (D : List Sl) : cn D 0 = 0 := rfl
theorem cn_all (D : List Sl) : cn D D.length = D.countP fun s => decide (s.2.1 = 1) := by unfold cn; rw [List.take_length]
theorem cn_succ (D : List Sl) {i : Nat} (h : i < D.length) : cn D (i + 1) = cn D i + if (D.getD i Sl.sl0).2.1 = 1 then 1 else 0 := by
  unfold cn
  rw [List.take_add_one, List.getElem?_eq_getElem h, Hm.getD_at h, List.countP_append]
  by_cases e : D[i].2.1 = 1
  · simp [e]
  · simp [e]
theorem cn_le (D : List Sl) (i : Nat) : cn D i ≤ D.length := Nat.le_trans List.countP_le_length (by rw [List.length_take]; omega)
theorem lessI (a b : Sl) (h : Sl.ahead a b = false) : b.1 ≤ a.1 := by
  unfold Sl.ahead at h
  rw [decide_eq_false_iff_not] at h
  omega
theorem tl_next2 {B w : World} {p n : Nat} {C : List Sl} (h : Tl B w p C n) (h0 : 0 < C.length) : Calls Try.prog 11 #[.pointer (some ⟨p, 0, none⟩)] w fun e w' => ∃ x : Sl, x ∈ C ∧ (∀ y ∈ C, x.1 ≤ y.1) ∧ e = .returned (.tuple #[.int .i64 x.1, .bool true]) ∧ Below w.heap.size w w' := by
  obtain ⟨v, M, h1, h2, h3, h4⟩ := h
  have hm : 0 < M.length := by rw [h2.length_eq]; exact h0
  refine (next_any h1 hm).mono fun e w' ⟨k1, k2⟩ => ⟨M.getD 0 Sl.sl0, h2.mem_iff.1 (by rw [Hm.getD_at hm]; exact List.getElem_mem hm), fun y hy => ?_, k1, k2⟩
  obtain ⟨c, hc, rfl⟩ := List.getElem_of_mem (h2.mem_iff.2 hy)
  have := h1.ok.least Sl.ahead_ord c c (Nat.le_refl c) hc
  rw [Hm.getD_at hc] at this
  exact lessI _ _ this
/-- Who is left once the earlier one of the two went. -/
theorem left {x y z mn : Int} (hmn : mn = if x ≤ y then x else y) {X : Sl} {M : List Sl} (hp : (X :: M).Perm [(x, 1, 0), (z, 2, 1), (y, 1, 2)]) (hX : X.2.1 = 1) (ha : ∀ u ∈ ([(x, 1, 0), (z, 2, 1), (y, 1, 2)] : List Sl), u.2.1 = 1 → Sl.ahead u X = false) : ∃ r o : Int, M.Perm [(r, 1, o), (z, 2, 1)] ∧ mn ≤ r ∧ (r ≤ mn ↔ x = y) ∧ (r = x ∨ r = y) := by
  have hm := hp.mem_iff.1 (List.mem_cons_self)
  simp only [List.mem_cons, List.not_mem_nil, or_false] at hm
  rcases hm with rfl | rfl | rfl
  · refine ⟨y, 2, ((hp.cons_inv).trans (List.Perm.swap _ _ _)), ?_⟩
    have := lessI _ _ (ha (y, 1, 2) (by simp) rfl)
    simp only at this
    rw [if_pos this] at hmn
    omega
  · simp at hX
  · have hq : ((y, 1, 2) :: M).Perm ((y, 1, 2) :: [(x, 1, 0), (z, 2, 1)]) := hp.trans (List.perm_append_comm (l₁ := [(x, 1, 0), (z, 2, 1)]) (l₂ := [(y, 1, 2)]))
    refine ⟨x, 0, hq.cons_inv, ?_⟩
    have := ha (x, 1, 0) (by simp) rfl
    unfold Sl.ahead at this
    rw [decide_eq_false_iff_not] at this
    simp only at this
    rw [if_neg (by omega)] at hmn
    omega
/-- What Due tells of those two, and who is left then. -/
theorem due2 {r o z mn : Int} {M D M2 : List Sl} (hp : M.Perm [(r, 1, o), (z, 2, 1)]) (hd : Ds M D M2) (h1 : ∀ a ∈ D, a.1 ≤ mn) (h2 : ∀ b ∈ M2, mn < b.1) : (cn D D.length : Int) = (if r ≤ mn then 1 else 0) ∧ cn D D.length + cn M2 M2.length = 1 ∧ D.length + M2.length = 2 ∧ ∀ b ∈ M2, b.1 = r ∨ b.1 = z := by
  have hc : (D ++ M2).countP (fun s => decide (s.2.1 = 1)) = 1 := by rw [(hd.perm.trans hp).countP_eq]; rfl
  have hl : (D ++ M2).length = 2 := (hd.perm.trans hp).length_eq
  rw [List.countP_append] at hc
  rw [List.length_append] at hl
  have hD := ((hd.of_perm hp).part h1 h2).1
  refine ⟨?_, by rw [cn_all, cn_all]; exact hc, hl, fun b hb => ?_⟩
  · rw [cn_all, hD.countP_eq]
    by_cases e : r ≤ mn <;> by_cases e2 : z ≤ mn <;> simp [e, e2]
  · have := (hd.perm.trans hp).mem_iff.1 (List.mem_append_right D hb)
    simp only [List.mem_cons, List.not_mem_nil, or_false] at this
    rcases this with rfl | rfl
    · exact Or.inl rfl
    · exact Or.inr rfl
theorem due3 {M D M2 : List Sl} (hd : Ds M D M2) (hM : ∀ b ∈ M, b.1 ≤ 100) (h2 : ∀ b ∈ M2, 100 < b.1) : cn D D.length = cn M M.length ∧ D.length = M.length ∧ M2 = [] := by
  have h0 : M2 = [] := List.eq_nil_iff_forall_not_mem.2 fun b hb => by
    have h3 := h2 b hb
    have h4 := hM b (hd.perm.mem_iff.1 (List.mem_append_right D hb))
    omega
  subst h0
  have hp := hd.perm
  rw [List.append_nil] at hp
  exact ⟨by rw [cn_all, cn_all, hp.countP_eq], hp.length_eq, rfl⟩
theorem run_min3 {P : Program} {x y z m : Int} (h : (if z < (if y < x then y else x) then z else (if y < x then y else x)) = m) : ∀ (ts : Array TypeId) (t : TypeId) (w : World), (Builtin.min_ ts t #[.int .i64 x, .int .i64 y, .int .i64 z]).run P w = .ok (.int .i64 m) w := by
  intro ts t w
  rw [run_min_int3, h]
set_option maxRecDepth 100000 in
set_option maxHeartbeats 4000000 in
theorem walk (a0 : Int) (a1 : Int) (a2 : Int) (w : World) (w0 : (Lit.int .i64 a0).wf = true) (w1 : (Lit.int .i64 a1).wf = true) (w2 : (Lit.int .i64 a2).wf = true) :
    Calls Try.prog 3 #[.int .i64 a0, .int .i64 a1, .int .i64 a2] w fun e w' => e = .returned (.bool true) ∧ Below w.heap.size w w' := by


  have ct := fun w => told_any w
  obtain ⟨X, hX⟩ : ∃ X : Int, IntKind.u64.wrap a0 = X := ⟨_, rfl⟩
  have X0 : 0 ≤ X := by rw [← hX, IntKind.wrap_u64]; omega
  obtain ⟨x, hx⟩ : ∃ x : Int, X % 100 = x := ⟨_, rfl⟩
  have x0 : 0 ≤ x := by omega
  have x1 : x < 100 := by omega
  obtain ⟨Y, hY⟩ : ∃ Y : Int, IntKind.u64.wrap a1 = Y := ⟨_, rfl⟩
  have Y0 : 0 ≤ Y := by rw [← hY, IntKind.wrap_u64]; omega
  obtain ⟨y, hy⟩ : ∃ y : Int, Y % 100 = y := ⟨_, rfl⟩
  have y0 : 0 ≤ y := by omega
  have y1 : y < 100 := by omega
  obtain ⟨Z, hZ⟩ : ∃ Z : Int, IntKind.u64.wrap a2 = Z := ⟨_, rfl⟩
  have Z0 : 0 ≤ Z := by rw [← hZ, IntKind.wrap_u64]; omega
  obtain ⟨z, hz⟩ : ∃ z : Int, Z % 100 = z := ⟨_, rfl⟩
  have z0 : 0 ≤ z := by omega
  have z1 : z < 100 := by omega
  have cn1 := tl_new w
  obtain ⟨p, hp⟩ : ∃ p, w.heap.size = p := ⟨_, rfl⟩
  rw [hp] at cn1
  clear hp
  go_enter Try.func3, Try.ntmps3
  go_wp2_with fail
  with_reducible refine Calls.mono (cn1) ?_
  rintro e wa ⟨rfl, hs1⟩
  have cs := tl_add hs1 (by decide) (by decide) x 1
  clear cn1 hs1
  go_wp2_with fail
  with_reducible refine Calls.mono (cs) ?_
  rintro e wb ⟨rfl, hs2⟩
  have cs := tl_add hs2 (by simp) (by decide) z 2
  clear hs2
  go_wp2_with fail
  with_reducible refine Calls.mono (cs) ?_
  rintro e wc ⟨rfl, hs3⟩
  have cs := tl_add hs3 (by simp) (by decide) y 1
  clear hs3
  go_wp2_with fail
  with_reducible refine Calls.mono (cs) ?_
  rintro e wd ⟨rfl, hs4⟩
  have hs4 : Tl w wd p [(x, 1, 0), (z, 2, 1), (y, 1, 2)] 3 := hs4
  have cl := tl_len hs4
  rw [show (([(x, 1, 0), (z, 2, 1), (y, 1, 2)] : List Sl).length : Int) = 3 from rfl] at cl
  go_wp2_with fail
  with_reducible refine Calls.mono (cl) ?_
  rintro e wd' ⟨rfl, rfl⟩
  have cx := tl_next2 hs4 (by simp)
  clear cs cl
  go_wp2_with fail
  with_reducible refine Calls.mono (cx) ?_
  rintro e we ⟨f, hf1, hf2, rfl, hb⟩
  have hs5 := Lib.hid (hs4.below hb)
  have hm3 : (if z < (if y < x then y else x) then z else (if y < x then y else x)) = f.1 := by
    have g1 := hf2 (x, 1, 0) (by simp)
    have g2 := hf2 (z, 2, 1) (by simp)
    have g3 := hf2 (y, 1, 2) (by simp)
    simp only [List.mem_cons, List.not_mem_nil, or_false] at hf1
    simp only at g1 g2 g3
    have : f.1 = x ∨ f.1 = z ∨ f.1 = y := by
      rcases hf1 with rfl | rfl | rfl
      · exact Or.inl rfl
      · exact Or.inr (Or.inl rfl)
      · exact Or.inr (Or.inr rfl)
    by_cases e : y < x
    · rw [if_pos e]
      split <;> omega
    · rw [if_neg e]
      split <;> omega
  have hr3 := fun W => run_min3 (P := Try.prog) hm3 #[2, 2, 2] 2 W
  obtain ⟨mn, hmn⟩ : ∃ mn : Int, mn = if x ≤ y then x else y := ⟨_, rfl⟩
  have hm2 : min x y = mn := by rw [hmn, Int.min_def]
  have hr2 := fun W => run_min2 (P := Try.prog) hm2 #[2, 2] 2 W
  obtain ⟨f0, hf0⟩ : ∃ f0 : Int, f.1 = f0 := ⟨_, rfl⟩
  rw [hf0] at hr3 ⊢
  clear cx hs4 hb hf1 hf2 hm3 hf0
  have cd := tl_del hs5.out 1
  go_wp2_with fail
  with_reducible refine Calls.mono cd ?_
  rintro e wf hdel
  have hdel2 : e = .returned (.bool true) ∧ Hid (∃ (r o : Int) (M : List Sl), M.Perm [(r, 1, o), (z, 2, 1)] ∧ mn ≤ r ∧ (r ≤ mn ↔ x = y) ∧ (r = x ∨ r = y) ∧ Tl w wf p M 3) := by
    rcases hdel with ⟨_, h2, _⟩ | ⟨h1, U, M, h2, h3, h4, h5⟩
    · exact absurd rfl (h2 (x, 1, 0) (by simp))
    · obtain ⟨r, o, k1, k2, k3, k4⟩ := left hmn h2 h3 h4
      exact ⟨h1, Lib.hid ⟨r, o, M, k1, k2, k3, k4, h5⟩⟩
  clear hdel
  obtain ⟨rfl, hdel⟩ := hdel2
  obtain ⟨r, o, M, hM, hr1, hrxy, hrr, hs6⟩ := hdel.out
  clear hdel hs5 cd hr3
  have cl := tl_len hs6
  rw [show (M.length : Int) = 2 by rw [hM.length_eq]; rfl] at cl
  go_wp2_with fail
  with_reducible refine Calls.mono (cl) ?_
  rintro e wf' ⟨rfl, rfl⟩
  have hmc : (y < x ∧ mn = y) ∨ (x ≤ y ∧ mn = x) := by
    rw [hmn]
    split
    · exact Or.inr ⟨by omega, rfl⟩
    · exact Or.inl ⟨by omega, rfl⟩
  rcases hmc with ⟨hc, he⟩ | ⟨hc, he⟩
  all_goals
    have cd := tl_due hs6 mn
    rw [he] at cd hr1 hrxy
    clear cl hs6
    go_wp2_with fail
    with_reducible refine Calls.mono (cd) ?_
    rintro e wg ⟨v1, D, M2, rfl, hi1, hd1, hle1, hgt1, hs7⟩
    obtain ⟨c1, c2, c3, c4⟩ := due2 hM hd1 hle1 hgt1
    have c1 : (cn D D.length : Int) = 1 ↔ x = y := by
      rw [c1, ← hrxy]
      split
      · exact ⟨fun _ => (by assumption), fun _ => rfl⟩
      · exact ⟨fun h => by omega, fun h => by omega⟩
    have hM100 : ∀ b ∈ M2, b.1 ≤ 100 := fun b hb => by
      have := c4 b hb
      omega
    obtain ⟨sp1, cap1, rfl, hm1, hc1⟩ := hi1
    rw [List.length_map] at hm1 hc1 ⊢
    replace hs7 := Lib.hid hs7
    replace hM100 := Lib.hid hM100
    clear cd hd1 hle1 hgt1 c4 hM hr2
    go_wp2_with fail
    go_loopg [14, 15] D.length (fun g u14 u15 wq => ∃ i : Nat, u14 = .int .i64 (cn D i : Nat) ∧ u15 = .int .i64 i ∧ i + g = D.length ∧ wq = wg)
    case atStart => exact ⟨0, by rw [cn_zero]; rfl, rfl, by omega, rfl⟩
    case round =>
      obtain ⟨i, rfl, rfl, hig, rfl⟩ := hrel
      by_cases hi : i < D.length
      · obtain ⟨b1, off1, rfl, _, hlt1, hcc1⟩ := hc1 i hi
        have hcs := cn_succ D hi
        have hcl := cn_le D i
        have hgd : (D.map fun s => s.2.1).getD i 0 = (D.getD i Sl.sl0).2.1 := by
          rw [List.getD_eq_getElem?_getD, List.getElem?_map, List.getElem?_eq_getElem hi, Hm.getD_at hi]
          rfl
        rw [hgd] at hcc1
        generalize (D.getD i Sl.sl0).2.1 = gi at *
        by_cases hg : gi = 1
        · rw [if_pos hg] at hcs
          subst hg
          go_wp2_with fail
          go_roundg (D.length - (i + 1))
          case measure => omega
          case rel => exact ⟨i + 1, by rw [hcs]; rfl, by simp, by omega, rfl⟩
        · rw [if_neg hg] at hcs
          go_wp2_with fail
          go_roundg (D.length - (i + 1))
          case measure => omega
          case rel => exact ⟨i + 1, by rw [hcs]; rfl, by simp, by omega, rfl⟩
      · obtain rfl : i = D.length := by omega
        have cd := fun W (h : Tl w W p M2 3) => tl_due h 100
        replace cd := cd _ hs7.out
        have fin : Hid (∀ e W, Tdue w p M2 3 100 e W → ∃ v2 D2, e = .returned v2 ∧ Ints W (fun k => w.heap.size ≤ k) v2 (D2.map fun s => s.2.1) ∧ cn D2 D2.length = cn M2 M2.length ∧ D2.length = M2.length ∧ Hid (Tl w W p [] 3)) := Lib.hid fun e W ⟨v2, D2, M3, k1, k2, k3, k4, k5, k6⟩ => by
          obtain ⟨j1, j2, rfl⟩ := due3 k3 hM100.out k5
          exact ⟨v2, D2, k1, k2, j1, j2, Lib.hid k6⟩
        replace cd := Calls.mono cd fin.out
        clear fin hc1
        have hcase : (cn D D.length = 1 ∧ x = y) ∨ (cn D D.length = 0 ∧ ¬ x = y) := by
          by_cases hxy : x = y
          · exact Or.inl ⟨by have := c1.2 hxy; omega, hxy⟩
          · exact Or.inr ⟨by
              have : ¬ cn D D.length = 1 := fun e => hxy (c1.1 (by omega))
              omega, hxy⟩
        obtain ⟨k0, hk0⟩ : ∃ k0 : Nat, cn D D.length = k0 := ⟨_, rfl⟩
        rw [hk0] at hcase c2 ⊢
        clear c1 hk0
        rcases hcase with ⟨hk, hxy⟩ | ⟨hk, hxy⟩
        all_goals
          try (exfalso; omega)
        all_goals
          first
          | subst hxy
            have ho : ((k0 : Int) == 1) = true := by simp [hk]
          | have hxf : (x == y) = false := by simp [hxy]
            have ho : ((k0 : Int) == 1) = false := by simp [hk]
          replace hk := Lib.hid hk
          go_wp2_with fail
          with_reducible refine Calls.mono (cd) ?_
          rintro e wh ⟨v2, D2, rfl, hi2, j1, j2, hs8⟩
          obtain ⟨sp2, cap2, rfl, hm2, hc2⟩ := hi2
          rw [List.length_map] at hm2 hc2 ⊢
          have hlen2 : (D.length : Int) + D2.length = 2 := by omega
          have hend : k0 + cn D2 D2.length = 1 := by omega
          clear j1 j2 c2 c3 cd
          go_wp2_with fail
          go_loopg [14, 17] D2.length (fun g u14 u17 wq => ∃ i : Nat, u14 = .int .i64 (k0 + cn D2 i : Nat) ∧ u17 = .int .i64 i ∧ i + g = D2.length ∧ wq = wh)
          case atStart => exact ⟨0, by rw [cn_zero]; rfl, rfl, by omega, rfl⟩
          case round =>
            obtain ⟨i, rfl, rfl, hig, rfl⟩ := hrel
            by_cases hi : i < D2.length
            · obtain ⟨b2, off2, rfl, _, hlt2, hcc2⟩ := hc2 i hi
              have hcs := cn_succ D2 hi
              have hcl := cn_le D2 i
              have hgd : (D2.map fun s => s.2.1).getD i 0 = (D2.getD i Sl.sl0).2.1 := by
                rw [List.getD_eq_getElem?_getD, List.getElem?_map, List.getElem?_eq_getElem hi, Hm.getD_at hi]
                rfl
              rw [hgd] at hcc2
              obtain ⟨q, hq⟩ : ∃ q, k0 + cn D2 i = q := ⟨_, rfl⟩
              have hqb : q ≤ 1000 := by omega
              rw [hq]
              generalize (D2.getD i Sl.sl0).2.1 = gi at *
              by_cases hg : gi = 1
              · rw [if_pos hg] at hcs
                have hnx : k0 + cn D2 (i + 1) = q + 1 := by omega
                subst hg
                go_wp2_with fail
                go_roundg (D2.length - (i + 1))
                case measure => omega
                case rel => exact ⟨i + 1, by rw [hnx]; rfl, by simp, by omega, rfl⟩
              · rw [if_neg hg] at hcs
                have hnx : k0 + cn D2 (i + 1) = q := by omega
                go_wp2_with fail
                go_roundg (D2.length - (i + 1))
                case measure => omega
                case rel => exact ⟨i + 1, by rw [hnx], by simp, by omega, rfl⟩
            · obtain rfl : i = D2.length := by omega
              rw [hend]
              rw [show ((1 : Nat) : Int) = 1 from rfl]
              replace hend := Lib.hid hend
              go_wp2_with fail
              with_reducible refine Calls.mono (ct _) ?_
              rintro e wi ⟨rfl, hb9⟩
              have hs9 := Lib.hid (hs8.out.below hb9)
              have cl := tl_len hs9.out
              go_wp2_with fail
              with_reducible refine Calls.mono (cl) ?_
              rintro e wj ⟨rfl, rfl⟩
              go_wp2_with fail
              go_ret
              exact ⟨rfl, hs9.out.bel⟩

set_option maxRecDepth 100000 in
theorem lifted (os : Os) (started : os.Started) (H : Type) (enc : TypeId × Value → H) :
    ReturnsInHanded {} Try.checked os 3 .any (Rows.timerTwiceSpec.pre6 enc Try.prog Try.f3 Rows.timerTwiceRow.domain false) (Rows.timerTwiceSpec.post enc Try.prog Try.f3 false true false false) := by
  refine returnsInHanded_of_change (C := Try.checked) own started (by kernel_rfl) Try.func3
    (ChangeSpec.witness6 (enc := enc) (C := Try.checked) false ⟨#[], #[.int .i64 0, .int .i64 0, .int .i64 0], []⟩ 8 (by kernel_rfl) (by kernel_rfl) (by kernel_rfl) (by kernel_rfl)) ?_
  intro W base args ds gs before hval0 hW hcnd _
  have hval : ∀ (j : Nat) t v, Try.f3.params[j]? = some t → args[j]? = some v → Value.okWide Try.prog W .any base t v := hval0
  have hW' := hW
  obtain ⟨p, q, hA0, hV, rfl, hfz, hnd⟩ := hW
  have hA : DataW.TrodAll enc Try.prog W 0 (fun _ => true) true Try.f3.params.toList args.toList ds p := hA0
  rw [Try.params3] at hA hval
  obtain ⟨v0, vs0, d0, ds0, p0, q0, hargs, rfl, rfl, h0, r0⟩ := trodAll_cons hA
  obtain ⟨v1, vs1, d1, ds1, p1, q1, rfl, rfl, rfl, h1, r1⟩ := trodAll_cons r0
  obtain ⟨v2, vs2, d2, ds2, p2, q2, rfl, rfl, rfl, h2, r2⟩ := trodAll_cons r1
  obtain ⟨rfl, rfl, rfl⟩ := trodAll_nil r2
  obtain rfl : args = #[v0, v1, v2] := by cases args; simp_all
  obtain ⟨rfl, rfl⟩ := trodVars_none hV
  obtain ⟨a0, rfl, rfl, rfl, w0⟩ := open_int Try.underlying3 (hval 0 3 v0 rfl rfl) h0
  obtain ⟨a1, rfl, rfl, rfl, w1⟩ := open_int Try.underlying3 (hval 1 3 v1 rfl rfl) h1
  obtain ⟨a2, rfl, rfl, rfl, w2⟩ := open_int Try.underlying3 (hval 2 3 v2 rfl rfl) h2
  clear hA0 hval0
  simp only [List.append_nil] at hW'
  refine (walk a0 a1 a2 W w0 w1 w2).mono fun e W' ⟨he, hg⟩ => ?_
  subst he
  exact ⟨_, rfl, post_of_kept (pa := _) (pv := []) hW' (fun _ _ _ => (trodAll_cons_mk (shut_bool Try.underlying4 _) trodAll_mk0)) (trodAll_cons_mk (shut_int Try.underlying3 w0) (trodAll_cons_mk (shut_int Try.underlying3 w1) (trodAll_cons_mk (shut_int Try.underlying3 w2) trodAll_mk0))) (fun _ _ => rfl) (by simp) hg⟩

theorem over : Rows.timerTwiceRow.holds Try.pinned (OpenSpec.ofChange Rows.timerTwiceSpec) :=
  OpenClaim.holds_of_wide 3 Try.f3 rfl rfl rfl rfl rfl rfl rfl ⟨rfl, rfl, rfl, rfl, rfl⟩ rfl rfl rfl rfl rfl (by kernel_rfl) Try.func3 (by kernel_rfl)
    (of_decide_eq_true (by kernel_rfl)) (by unfold Func.isWrapper; first | (rw [if_pos (by decide +kernel)]; kernel_rfl) | (rw [if_neg (by decide +kernel)]; exact ⟨rfl, rfl⟩))
    (fun os started H enc _ => lifted os started H enc)

theorem proved : Rows.TimerTwiceSaid :=
  over
#print axioms proved
end Go.Proofs.Ytinlbenifmcgaaa.timerTwice
