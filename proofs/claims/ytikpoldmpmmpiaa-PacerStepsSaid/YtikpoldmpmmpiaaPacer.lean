/- What the package pacer answers: goals, triggers, ratios, when a cycle begins; that the few answers which every statement of the layer asks for are given. -/
import Derived.Test.YtikpoldmpmmpiaaFixOpsK
import Derived.Test.YtikpoldmpmmpiaaPacerMath
import Derived.Test.YtikpoldmpmmpiaaMinMax
namespace Go.Proofs.Ytikpoldmpmmpiaa
open Go.RowKit Go.Lib Fx
set_option linter.unusedVariables false
namespace Pa
/-- A function that keeps numbers within bounds: what it caught lies in two blocks. -/
def CutAt (lo hi : Int) (p : Nat) (w : World) : Prop := w.cell? ⟨p, 0, none⟩ = some (.int .i64 lo) ∧ w.cell? ⟨p + 1, 0, none⟩ = some (.int .i64 hi) ∧ p + 1 < w.heap.size
set_option maxRecDepth 100000 in
theorem cut_any (lo hi : Int) (w : World) :
    Calls Try.prog 49 #[.int .i64 lo, .int .i64 hi] w fun e w' => ∃ p, e = .returned (.func (.func 67) #[] #[.pointer (some ⟨p, 0, none⟩), .pointer (some ⟨p + 1, 0, none⟩)]) ∧ CutAt lo hi p w' ∧ Below w.heap.size w w' := by
  have hmf : ∀ (fn : Fn) (first cap : Array Value) (w : World), (Instr.makeFunc fn first cap).run Try.prog w = .ok (.func fn first cap) w := fun _ _ _ _ => rfl
  go_enter Try.func49, Try.ntmps49
  go_wp2_with fail
  go_ret
  refine ⟨w.heap.size, rfl, ⟨?_, ?_, ?_⟩, (Below.refl _ _).alloc (Nat.le_refl _) _ |>.alloc (by simp) _⟩
  · go_simp
  · go_simp
  · simp
set_option maxRecDepth 100000 in
theorem cut1_any {lo hi : Int} {p : Nat} (n : Int) (w : World) (h : CutAt lo hi p w) :
    Calls Try.prog 67 #[.int .i64 n, .pointer (some ⟨p, 0, none⟩), .pointer (some ⟨p + 1, 0, none⟩)] w (Ans (.int .i64 (cutI lo hi n)) w) := by
  obtain ⟨h1, h2, h3⟩ := h
  unfold cutI
  go_enter Try.func67, Try.ntmps67
  go_wp2_with fail
  all_goals (go_ret; exact ⟨ret_i64 (by omega), 0, rfl⟩)
theorem CutAt.below {lo hi : Int} {p : Nat} {w w' : World} (h : CutAt lo hi p w) (hb : Below w.heap.size w w') : CutAt lo hi p w' :=
  ⟨cell_then hb h.1, cell_then hb h.2.1, Nat.lt_of_lt_of_le h.2.2 hb.size⟩
/-- The closure's contract at one number. -/
def Cut1 (lo hi n x : Int) : Prop := ∀ (p : Nat) (w : World), CutAt lo hi p w → Calls Try.prog 67 #[.int .i64 n, .pointer (some ⟨p, 0, none⟩), .pointer (some ⟨p + 1, 0, none⟩)] w (Ans (.int .i64 x) w)
theorem Cut1.out {lo hi n x : Int} (h : Cut1 lo hi n x) : ∀ (p : Nat) (w : World), CutAt lo hi p w → Calls Try.prog 67 #[.int .i64 n, .pointer (some ⟨p, 0, none⟩), .pointer (some ⟨p + 1, 0, none⟩)] w (Ans (.int .i64 x) w) := h
theorem cut1_hid (lo hi n : Int) : Cut1 lo hi n (cutI lo hi n) := fun _ w h => cut1_any n w h
set_option maxRecDepth 100000 in
set_option maxHeartbeats 1000000 in
theorem ratio_any (s t g : Int) (h1 : inI s) (h2 : inI t) (h3 : inI g) (w : World) :
    Calls Try.prog 23 #[.int .i64 s, .int .i64 t, .int .i64 g] w (AnsB (.int .i64 (ratioI s t g)) w) := by
  unfold ratioI
  obtain ⟨s0, es⟩ : ∃ m, max s 0 = m := ⟨_, rfl⟩
  have hs := @run_max2 Try.prog s 0 s0 es
  have c1 := fun w => add_any s0 64 (by unfold inI at *; omega) (by unfold inI; omega) w
  have i1 := addI_in s0 64
  have c2 := fun w => sub_any g t h3 h2 w
  have i2 := subI_in g t
  rw [es]
  generalize addI s0 64 = a at *
  generalize subI g t = b at *
  obtain ⟨b1, eb⟩ : ∃ m, max b 1 = m := ⟨_, rfl⟩
  have hb := @run_max2 Try.prog b 1 b1 eb
  rw [eb]
  have c3 := fun w => whole_any a i1 w
  have c4 := fun w => whole_any b1 (by unfold inI at *; omega) w
  have i3 := wholeI_in a
  have i4 := wholeI_in b1
  generalize wholeI a = A at *
  generalize wholeI b1 = B at *
  have c5 := fun w => div_any A B i3 i4 w
  generalize divI A B = D at *
  have c6 := fun w => cut_any 131072 67108864 w
  have c7 := cut1_hid 131072 67108864 D
  generalize cutI 131072 67108864 D = R at *
  clear h1 h2 h3 i1 i2 i3 i4 es eb
  go_enter Try.func23, Try.ntmps23
  go_wp2_with fail
  with_reducible refine Calls.mono (c1 _) ?_
  rintro e w1 ⟨rfl, k1, rfl⟩
  go_wp2_with fail
  with_reducible refine Calls.mono (c2 _) ?_
  rintro e w2 ⟨rfl, k2, rfl⟩
  go_wp2_with fail
  with_reducible refine Calls.mono (c6 _) ?_
  rintro e w3 ⟨pc, rfl, hc, hb3⟩
  replace hb3 := below_then (below_drewN (Below.refl _ _) _) hb3
  go_wp2_with fail
  with_reducible refine Calls.mono (c3 _) ?_
  rintro e w4 ⟨rfl, k4, rfl⟩
  replace hb3 := below_drewN hb3 k4
  replace hc := hc.below (below_drewN (Below.refl _ _) k4)
  generalize w3.drewN k4 = w4 at *
  go_wp2_with fail
  with_reducible refine Calls.mono (c4 _) ?_
  rintro e w5 ⟨rfl, k5, rfl⟩
  replace hb3 := below_drewN hb3 k5
  replace hc := hc.below (below_drewN (Below.refl _ _) k5)
  generalize w4.drewN k5 = w5 at *
  go_wp2_with fail
  with_reducible refine Calls.mono (c5 _) ?_
  rintro e w6 ⟨rfl, k6, rfl⟩
  replace hb3 := below_drewN hb3 k6
  replace hc := hc.below (below_drewN (Below.refl _ _) k6)
  generalize w5.drewN k6 = w6 at *
  go_wp2_with fail
  with_reducible refine Calls.mono (c7.out _ _ hc) ?_
  rintro e w7 ⟨rfl, k7, rfl⟩
  go_wp2_with fail
  go_ret
  exact ⟨rfl, below_drewN hb3 _⟩
/-- A goal, as it lies. -/
abbrev goalV (t g r : Int) : Value := .agg #[.int .i64 t, .int .i64 g, .int .i64 r]
/-- A block of three numbers of the call's own. -/
structure Box3 (B : Nat) (a b c : Int) (w : World) : Prop where
  blk : w.heap[B]? = some (.cells #[.int .i64 a, .int .i64 b, .int .i64 c] 35 (0, 0))
theorem Box3.lt {B : Nat} {a b c : Int} {w : World} (h : Box3 B a b c w) : B < w.heap.size := by
  rcases Nat.lt_or_ge B w.heap.size with g | g
  · exact g
  · have := h.blk; rw [Array.getElem?_eq_none g] at this; cases this
theorem Box3.below {B : Nat} {a b c : Int} {w w' : World} (h : Box3 B a b c w) (hb : Below w.heap.size w w') : Box3 B a b c w' := ⟨by rw [hb.block _ h.lt]; exact h.blk⟩
theorem Box3.new (w : World) (a b c : Int) : Box3 w.heap.size a b c (w.alloc (.cells #[.int .i64 a, .int .i64 b, .int .i64 c] 35)) := ⟨by unfold World.alloc; exact Array.getElem?_push_size⟩
theorem Box3.c0 {B : Nat} {a b c : Int} {w : World} (h : Box3 B a b c w) : w.cell? ⟨B, 0, none⟩ = some (.int .i64 a) ∧ w.cell? ⟨B, 1, none⟩ = some (.int .i64 b) ∧ w.cell? ⟨B, 2, none⟩ = some (.int .i64 c) ∧ w.frozen? ⟨B, 0, none⟩ = false ∧ w.frozen? ⟨B, 1, none⟩ = false ∧ w.frozen? ⟨B, 2, none⟩ = false := by
  unfold World.cell? World.frozen?; rw [h.blk]; exact ⟨rfl, rfl, rfl, rfl, rfl, rfl⟩
set_option maxRecDepth 100000 in
set_option maxHeartbeats 1000000 in
theorem goal_off (l w' p : Int) (h : inI w') (w : World) :
    Calls Try.prog 22 #[.int .i64 l, .int .i64 w', .int .i64 p, .bool false] w (AnsB (goalV (allI w') (allI w') 0) w) := by
  unfold allI
  have c6 := fun w => cut_any 0 16777216 w
  have c7 := cut1_hid 0 16777216 w'
  generalize cutI 0 16777216 w' = R at *
  go_enter Try.func22, Try.ntmps22
  go_wp2_with fail
  with_reducible refine Calls.mono (c6 _) ?_
  rintro e w1 ⟨pc, rfl, hc, hb⟩
  have hbx := (Box3.new w 0 0 0).below hb
  replace hb := below_then (below_alloc (Below.refl _ _) _) hb
  go_wp2_with fail
  with_reducible refine Calls.mono (c7.out _ _ hc) ?_
  rintro e w2 ⟨rfl, k2, rfl⟩
  replace hb := below_drewN hb k2
  replace hbx := hbx.below (below_drewN (Below.refl _ _) k2)
  obtain ⟨h0, h1, h2, f0, f1, f2⟩ := hbx.c0
  go_wp2_with fail
  refine bodyPost_ret (v := goalV R R 0) (by simp [results, Try.results22, go_sem, h0, h1, h2]) rfl ⟨rfl, ?_⟩
  exact ((hb.setCell (Nat.le_refl _) _).setCell (Nat.le_refl _) _).setCell (Nat.le_refl _) _
set_option maxRecDepth 100000 in
set_option maxHeartbeats 2000000 in
theorem goal_on (l w' p : Int) (h1 : inI l) (h2 : inI w') (h3 : inI p) (w : World) :
    Calls Try.prog 22 #[.int .i64 l, .int .i64 w', .int .i64 p, .bool true] w (AnsB (goalV (trigI (livesI (allI w') l) (goalI (allI w') (livesI (allI w') l) p)) (goalI (allI w') (livesI (allI w') l) p) (ratioI (livesI (allI w') l) (trigI (livesI (allI w') l) (goalI (allI w') (livesI (allI w') l) p)) (goalI (allI w') (livesI (allI w') l) p))) w) := by
  have c1 := fun w => cut_any 0 16777216 w
  have d1 := cut1_hid 0 16777216 w'
  obtain ⟨a1, a2⟩ := all_bd w'
  obtain ⟨e1, e2⟩ := lives_bd l a1
  rw [show cutI 0 16777216 w' = allI w' from rfl] at d1
  generalize allI w' = A at *
  have c2 := fun w => cut_any 0 A w
  have d2 := cut1_hid 0 A l
  rw [show cutI 0 A l = livesI A l from rfl] at d2
  generalize livesI A l = L at *
  have c3 := fun w => cut_any 0 10000 w
  have d3 := cut1_hid 0 10000 p
  obtain ⟨p1, p2⟩ := pct_prod (percent := p) e1 (by omega)
  have hg := grown_bd (percent := p) e1 (by omega)
  obtain ⟨g1, g2, g3, g4, g5, g6⟩ := goal_bd (percent := p) a1 a2 e1 e2
  obtain ⟨P, hP⟩ : ∃ P, cutI 0 10000 p = P := ⟨_, rfl⟩
  have hgr : grownI L p = L + L * P / 100 := by unfold grownI; rw [hP]
  rw [hP] at d3 p1 p2
  obtain ⟨x, hx⟩ : ∃ x, L * P = x := ⟨_, rfl⟩
  rw [hx] at hgr p1 p2
  have hm : wrap64 (L * P) = x := by rw [hx]; exact IntWalk.wrap64_in _ ⟨by omega, by omega⟩
  have hgl : min (cutI (A / 4) (A / 2 + L / 2) (L + x / 100)) A = goalI A L p := by unfold goalI; rw [hgr]
  have c4 := fun w => cut_any (A / 4) (A / 2 + L / 2) w
  have d4 := cut1_hid (A / 4) (A / 2 + L / 2) (L + x / 100)
  generalize cutI (A / 4) (A / 2 + L / 2) (L + x / 100) = C at *
  have m1 := @run_min2 Try.prog _ _ _ hgl
  generalize goalI A L p = G at *
  obtain ⟨M, hM⟩ : ∃ M, max (G - L) 0 = M := ⟨_, rfl⟩
  have m2 := @run_max2 Try.prog _ _ _ hM
  have hT : min (L + 3 * M / 4) G = trigI L G := by unfold trigI; rw [hM]
  have m3 := @run_min2 Try.prog _ _ _ hT
  generalize trigI L G = T at *
  have M1 : 0 ≤ M := by omega
  have M2 : M ≤ 16777216 := by omega
  have c5 := fun w => ratio_any L T G (by unfold inI; omega) (by unfold inI; omega) (by unfold inI; omega) w
  generalize ratioI L T G = R at *
  clear hP hx hgr hgl hM hT h1 h2 h3 hg g3 g6
  go_enter Try.func22, Try.ntmps22
  go_wp2_with fail
  with_reducible refine Calls.mono (c1 _) ?_
  rintro e w1 ⟨q1, rfl, hc, hb⟩
  have hbx := (Box3.new w 0 0 0).below hb
  replace hb := below_then (below_alloc (Below.refl _ _) _) hb
  go_wp2_with fail
  with_reducible refine Calls.mono (d1.out _ _ hc) ?_
  rintro e w2 ⟨rfl, k2, rfl⟩
  replace hb := below_drewN hb k2
  replace hbx := hbx.below (below_drewN (Below.refl _ _) k2)
  generalize w1.drewN k2 = w2 at *
  clear hc
  go_wp2_with fail
  with_reducible refine Calls.mono (c2 _) ?_
  rintro e w3 ⟨q3, rfl, hc, hb3⟩
  replace hbx := hbx.below hb3
  replace hb := below_then hb hb3
  go_wp2_with fail
  with_reducible refine Calls.mono (d2.out _ _ hc) ?_
  rintro e w4 ⟨rfl, k4, rfl⟩
  replace hb := below_drewN hb k4
  replace hbx := hbx.below (below_drewN (Below.refl _ _) k4)
  generalize w3.drewN k4 = w4 at *
  clear hc hb3
  go_wp2_with fail
  with_reducible refine Calls.mono (c3 _) ?_
  rintro e w5 ⟨q5, rfl, hc, hb5⟩
  replace hbx := hbx.below hb5
  replace hb := below_then hb hb5
  go_wp2_with fail
  with_reducible refine Calls.mono (d3.out _ _ hc) ?_
  rintro e w6 ⟨rfl, k6, rfl⟩
  replace hb := below_drewN hb k6
  replace hbx := hbx.below (below_drewN (Below.refl _ _) k6)
  generalize w5.drewN k6 = w6 at *
  clear hc hb5
  go_wp2_with fail
  with_reducible refine Calls.mono (c4 _) ?_
  rintro e w7 ⟨q7, rfl, hc, hb7⟩
  replace hbx := hbx.below hb7
  replace hb := below_then hb hb7
  go_wp2_with fail
  with_reducible refine Calls.mono (d4.out _ _ hc) ?_
  rintro e w8 ⟨rfl, k8, rfl⟩
  replace hb := below_drewN hb k8
  replace hbx := hbx.below (below_drewN (Below.refl _ _) k8)
  generalize w7.drewN k8 = w8 at *
  clear hc hb7
  go_wp2_with fail
  with_reducible refine Calls.mono (c5 _) ?_
  rintro e w9 ⟨rfl, hb9⟩
  replace hbx := hbx.below hb9
  replace hb := below_then hb hb9
  obtain ⟨h0, h1, h2, f0, f1, f2⟩ := hbx.c0
  go_wp2_with fail
  refine bodyPost_ret (v := goalV T G R) (by simp [results, Try.results22, go_sem, h0, h1, h2]) rfl ⟨rfl, ?_⟩
  exact ((hb.setCell (Nat.le_refl _) _).setCell (Nat.le_refl _) _).setCell (Nat.le_refl _) _
set_option maxRecDepth 100000 in
theorem begin_any (t g r a : Int) (w : World) :
    Calls Try.prog 28 #[goalV t g r, .int .i64 a] w (AnsB (.bool (decide (t ≤ a) && decide (0 < r))) w) := by
  by_cases h : t ≤ a
  all_goals
    go_enter Try.func28, Try.ntmps28
    go_wp2_with fail
    go_ret
    exact ⟨by simp [h]; try omega, (Below.refl _ _).alloc (Nat.le_refl _) _⟩
set_option maxRecDepth 100000 in
set_option maxHeartbeats 1000000 in
theorem told_any (w : World) : Calls Try.prog 24 #[] w (AnsB (.bool true) w) := by
  have c1 : ∀ w, Calls Try.prog 22 #[.int .i64 0, .int .i64 1024, .int .i64 100, .bool true] w (AnsB (goalV 192 256 1048576) w) := fun w => goal_on 0 1024 100 (by unfold inI; omega) (by unfold inI; omega) (by unfold inI; omega) w
  have c2 : ∀ w, Calls Try.prog 22 #[.int .i64 100, .int .i64 1024, .int .i64 100, .bool false] w (AnsB (goalV 1024 1024 0) w) := fun w => goal_off 100 1024 100 (by unfold inI; omega) w
  have c3 : ∀ w, Calls Try.prog 28 #[goalV 192 256 1048576, .int .i64 192] w (AnsB (.bool true) w) := fun w => begin_any _ _ _ _ w
  have c4 : ∀ w, Calls Try.prog 28 #[goalV 192 256 1048576, .int .i64 191] w (AnsB (.bool false) w) := fun w => begin_any _ _ _ _ w
  have c5 : ∀ w, Calls Try.prog 28 #[goalV 1024 1024 0, .int .i64 2000] w (AnsB (.bool false) w) := fun w => begin_any _ _ _ _ w
  go_enter Try.func24, Try.ntmps24
  go_wp2_with fail
  with_reducible refine Calls.mono (c1 _) ?_
  rintro e w1 ⟨rfl, hb1⟩
  go_wp2_with fail
  with_reducible refine Calls.mono (c2 _) ?_
  rintro e w2 ⟨rfl, hb2⟩
  have hx1 := (Box3.new w1 192 256 1048576).below hb2
  replace hb2 := below_then (below_then hb1 (below_alloc (Below.refl _ _) _)) hb2
  clear hb1
  generalize w1.heap.size = B1 at *
  have l1 := hx1.lt
  obtain ⟨h0, h1, h2, f0, f1, f2⟩ := hx1.c0
  go_wp2_with fail
  with_reducible refine Calls.mono (c3 _) ?_
  rintro e w3 ⟨rfl, hb3⟩
  replace hx1 := (hx1.below (below_alloc (Below.refl _ _) _)).below hb3
  have hx2 := (Box3.new w2 1024 1024 0).below hb3
  replace hb2 := below_then (below_then hb2 (below_alloc (Below.refl _ _) _)) hb3
  generalize w2.heap.size = B2 at *
  clear h0 h1 h2 f0 f1 f2 hb3
  obtain ⟨h0, h1, h2, _, _, _⟩ := hx1.c0
  go_wp2_with fail
  with_reducible refine Calls.mono (c4 _) ?_
  rintro e w4 ⟨rfl, hb4⟩
  replace hx2 := hx2.below hb4
  replace hb2 := below_then hb2 hb4
  clear h0 h1 h2 hb4
  obtain ⟨h0, h1, h2, _, _, _⟩ := hx2.c0
  go_wp2_with fail
  with_reducible refine Calls.mono (c5 _) ?_
  rintro e w5 ⟨rfl, hb5⟩
  go_wp2_with fail
  go_ret
  exact ⟨rfl, below_then hb2 hb5⟩
end Pa
end Go.Proofs.Ytikpoldmpmmpiaa
