/- For any slice of operations the statement StatePlays answers true and leaves its argument as it was: at most a hundred goroutines are begun and moved beside a list of their states; each move is told as the document tells it, the counts and who is alive are the list's. No condition. -/
import Derived.Test.YteigcjgohhgjcaaStatesPlay
import Derived.WalkKit
import Derived.ProofKit
import Derived.OpenShut
import Derived.Deep.RegionHeld3
import Derived.Deep.RegionWith
import Derived.Deep.Cut
import Derived.Deep.CutBlock
import Derived.Deep.CutRange
import Derived.Deep.DeepCutAuto
import Derived.RegionTactic
namespace Go.Proofs.Yteigcjgohhgjcaa.statePlays
open Go.ChangeShapes Go.WideShapes Go.ChangeAt Go.WideElems Go.RowKit Go.Lib Fx Ho St
set_option linter.unusedVariables false

theorem own : ownKnob Try.prog.godebug = none := by kernel_rfl

set_option maxRecDepth 100000 in
set_option maxHeartbeats 4000000 in
theorem walk (v0 : Value) (L0 : Nat) (kf0 gf0 tf0 : Nat → Int) (w : World) (h0 : Op12 w v0 L0 kf0 gf0 tf0) :
    Calls Try.prog 11 #[v0] w fun e w' => e = .returned (.bool true) ∧ Below w.heap.size w w' := by
  have ct := fun w => told_any w
  have cn := ss_new w
  obtain ⟨i0, hi0, hz0, hz1, hz2⟩ := info_parts infoI
  obtain ⟨p, hp⟩ : ∃ p, w.heap.size = p := ⟨_, rfl⟩
  rw [hp] at cn
  replace hp := Lib.hid hp
  obtain ⟨sp, cap, rfl, hm, hc⟩ := h0
  replace hc := Lib.hid hc
  go_enter Try.func11, Try.ntmps11
  go_wp2_with fail
  with_reducible refine Calls.mono (cn) ?_
  rintro e w1 ⟨rfl, hs1⟩
  have hq1 : Hid (Sq w w1 p (.slice none 0 0) [] (.slice none 0 0) []) := ⟨hs1, World.ownsRow_nil _ _ _ _, fun k hk => by cases hk⟩
  clear cn hs1
  go_wp2_with fail
  go_loopw [4, 5] (fun u i wr => ∃ k : Nat, i = .int .i64 k ∧ k ≤ L0 ∧ k ≤ 100 ∧ ∃ v R, Hid (Sq w wr p v R u R) ∧ R.length ≤ k) (fun _ i _ => (L0 - (intOf i).toNat))
  case atStart => exact ⟨0, rfl, by omega, by omega, _, [], hq1, by simp⟩
  case round =>
    obtain ⟨k, rfl, k1, k2, v, R, hS, hRk⟩ := hrel
    clear hq1
    by_cases hk : k < L0 ∧ k < 100
    · obtain ⟨hk, hk2⟩ := hk
      have i2 : (k : Int) < (L0 : Int) := by omega
      have i3 : (k : Int) < 100 := by omega
      have i4 : (0 : Int) ≤ (k : Int) := by omega
      obtain ⟨b, off, rfl, hbl, q0, q1, q2, wf0⟩ := hc.out k hk
      have hbel := hS.out.ss.bel
      rw [← Nat.add_assoc] at q1 q2
      replace q0 := (hbel.cell (show (⟨b, off + k * 3, none⟩ : Addr).block < _ from hbl)).trans q0
      replace q1 := (hbel.cell (show (⟨b, off + k * 3 + 1, none⟩ : Addr).block < _ from hbl)).trans q1
      replace q2 := (hbel.cell (show (⟨b, off + k * 3 + 2, none⟩ : Addr).block < _ from hbl)).trans q2
      generalize kf0 k = kd at *
      generalize gf0 k = g at *
      generalize tf0 k = t at *
      have b1 := bounds_i64 wf0
      obtain ⟨o, ho⟩ : ∃ o, wr.heap.size = o := ⟨_, rfl⟩
      have hr : Hid (Sr w (wr.alloc (.cells #[.int .i64 kd, .int .i64 g, .int .i64 t] 64)) p v R u4 R o kd g t) := by
        have hbA : Below wr.heap.size wr (wr.alloc (.cells #[.int .i64 kd, .int .i64 g, .int .i64 t] 64)) := below_alloc (Below.refl _ _) _
        refine ⟨hS.out.below hbA, by rw [← ho]; exact heap_alloc_new _ _, fun h' => ?_, fun h' => ?_⟩
        · have := hS.out.ss.st.lt o h'; omega
        · have := (hS.out.row.lt o h').2; omega
      obtain ⟨sp4, cap4, rfl⟩ := own_slice hS.out.row
      clear hS hbel
      have d00 := hr.out.c0
      go_upto_if 38 with fail
      go_cut [4] (fun s4 wx => ∃ v' R', Hid (Sq w wx p v' R' s4 R') ∧ R'.length ≤ k + 1)
      case first =>
        have d0 := hr.out.c0
        have d1 := hr.out.c1
        have d2 := hr.out.c2
        obtain ⟨ι, hι⟩ : ∃ ι : Bool, ((wrap64 (kd.tmod 3 + 3)).tmod 3 == 0) = ι := ⟨_, rfl⟩
        cases ι with
        | true =>
          have cs := sq_spawn hr.out.sq (by omega)
          clear d1 d2 hr
          go_wp2_with fail
          with_reducible refine Calls.mono (cs) ?_
          rintro e w2 ⟨rfl, v2, hs2⟩
          have hz : Hid (∀ (W : World) (v' : Value), W.ownsRow w.heap.size 3 1 v' (R.length + 1) (cells R ++ [.int .i64 1]) → (w2.alloc (.cells #[.int .i64 1] 3)).grownBy W (Value.slice sp4 R.length cap4).ownBlock → (v'.ownBlock = (Value.slice sp4 R.length cap4).ownBlock ∨ v'.ownBlock = some (w2.alloc (.cells #[.int .i64 1] 3)).heap.size) → Hid (Sq w W p v2 (R ++ [1]) v' (R ++ [1]))) := fun W v' a1 a2 a3 => hs2.more a1 a2 a3
          have hrow := Lib.hid hs2.row
          have hsz2 := hs2.ss.bel.size
          have hl1 : (R ++ [1]).length = R.length + 1 := by rw [List.length_append]; rfl
          clear cs hs2
          generalize hRn : R.length = n at *
          generalize cells R = CR at *
          replace hl1 := Lib.hid hl1
          go_wp2_with (at_builtin; refine wpList_append_apart rfl _ _ 26 rfl w.heap.size 3 i0 (.int .i64 0) 1 8 Try.underlying26 hi0 hz0 hz1 hz2 rfl (by decide) _ n CR rfl (hrow.out.alloc _) ⟨w2.heap.size, 0, none⟩ 1 1 [.int .i64 1] rfl rfl (news_one w2 (.int .i64 1) 3) (fun x hx => by simp at hx; subst hx; rfl) (by unfold maxLen; omega) (by omega) (by show _ ≤ (w2.heap.push _).size; rw [Array.size_push]; omega) (by omega) ?_; intro v' w3 hown3 hgrow3 hwhere3; have hq3 := hz.out _ _ hown3 hgrow3 hwhere3; clear hown3 hgrow3 hwhere3)
          go_meet
          exact ⟨_, _, hq3, by rw [hl1.out]; omega⟩
        | false =>
          by_cases hg : 0 ≤ g ∧ g < (R.length : Int)
          · obtain ⟨j, rfl⟩ : ∃ j : Nat, g = (j : Int) := ⟨g.toNat, by omega⟩
            have hj : j < R.length := by omega
            have g1 : (0 : Int) ≤ (j : Int) := hg.1
            have g2 : (j : Int) < (R.length : Int) := hg.2
            have g3 : decide ((0 : Int) ≤ (j : Int)) = true := decide_eq_true g1
            have g4 : decide ((j : Int) < (R.length : Int)) = true := decide_eq_true g2
            obtain ⟨br, cr, hu, _, _, hcell, hfz⟩ := own_at hr.out.sq.row hj
            obtain ⟨rfl, rfl⟩ : sp4 = some ⟨br, 0, none⟩ ∧ cap4 = cr := by simpa using hu
            clear hu hg
            have crm : Hid (∀ W, Calls Try.prog 40 #[.int .i64 (R.getD j 0), .int .i64 t] W (Ans (.bool (mayB (R.getD j 0) t)) W)) := fun W => ans_of_same (refmay_any _ t W)
            cases hM : mayB (R.getD j 0) t with
            | false =>
              rw [hM] at crm
              have hnx : Hid (∀ c, Calls Try.prog 41 #[.pointer (some ⟨p, 0, none⟩), .int .i64 j, .int .i64 t] ((wr.alloc (.cells #[.int .i64 kd, .int .i64 j, .int .i64 t] 64)).drewN c) fun e w' => e = .returned (.int .i64 5) ∧ Hid (Sq w w' p v R (.slice (some ⟨br, 0, none⟩) R.length cap4) R)) := fun c => sq_not j t (hr.out.sq.below (below_drewN (Below.refl _ _) c)) hj hM
              clear hr hM hj
              generalize R.getD j 0 = x at *
              generalize hRn : R.length = n at *
              go_wp2_with fail
              go_quiet ((go_at_call 40; refine quiet_ans1 (crm.out _)))
              have hn2 := hnx.out nq
              go_wp2_with fail
              with_reducible refine Calls.mono hn2 ?_
              rintro e w2 ⟨rfl, hs2⟩
              clear hnx hn2 crm
              go_wp2_with fail
              go_meet
              exact ⟨_, _, hs2, by omega⟩
            | true =>
              rw [hM] at crm
              have hne : o ≠ br := fun e => hr.out.oo.2 (by rw [e]; rfl)
              have hne2 : br ≠ o := fun e => hne e.symm
              have hnx : Hid (∀ c W, W.heap = (((wr.alloc (.cells #[.int .i64 kd, .int .i64 j, .int .i64 t] 64)).drewN c).setCell ⟨br, j, none⟩ (.int .i64 t)).heap → W.os = (wr.alloc (.cells #[.int .i64 kd, .int .i64 j, .int .i64 t] 64)).os → W.tape = (wr.alloc (.cells #[.int .i64 kd, .int .i64 j, .int .i64 t] 64)).tape → W.output = (wr.alloc (.cells #[.int .i64 kd, .int .i64 j, .int .i64 t] 64)).output → Calls Try.prog 41 #[.pointer (some ⟨p, 0, none⟩), .int .i64 j, .int .i64 t] W fun e w' => e = .returned (.int .i64 0) ∧ ∃ v', Hid (Sq w w' p v' (R.set j t) (.slice (some ⟨br, 0, none⟩) (R.set j t).length cap4) (R.set j t))) := fun c W a1 a2 a3 a4 => by
                have h1 := (hr.out.below (below_drewN (Below.refl _ _) c)).sq.put rfl a1 a2 a3 a4
                rw [show (R.set j t).length = R.length from List.length_set]
                exact sq_move j t h1 hj hM
              have hl2 : Hid ((R.set j t).length = R.length) := List.length_set
              clear hr hM hj
              rw [hl2.out] at hnx
              generalize R.getD j 0 = x at *
              generalize hRn : R.length = n at *
              go_wp2_with fail
              go_quiet ((go_at_call 40; refine quiet_ans1 (crm.out _)))
              have hn2 := hnx.out nq _ rfl rfl rfl rfl
              go_wp2_with fail
              with_reducible refine Calls.mono hn2 ?_
              rintro e w2 ⟨rfl, v2, hs2⟩
              clear hnx hn2 crm
              go_wp2_with fail
              go_meet
              exact ⟨_, _, hs2, by rw [hl2.out]; omega⟩
          · have hnx := sq_none g t hr.out.sq hg
            have hg2 : g < 0 ∨ (0 ≤ g ∧ ¬ g < (R.length : Int)) := by omega
            have hl : Hid (R.length ≤ k + 1) := by show R.length ≤ k + 1; omega
            clear hr hg
            generalize hRn : R.length = n at *
            rcases hg2 with g1 | ⟨g1, g2⟩
            · have g3 : decide ((0 : Int) ≤ g) = false := decide_eq_false (by omega)
              go_wp2_with fail
              with_reducible refine Calls.mono hnx ?_
              rintro e w2 ⟨rfl, hs2⟩
              replace hs2 := Lib.hid hs2
              clear hnx
              go_wp2_with fail
              go_meet
              exact ⟨_, _, hs2, by rw [hRn]; exact hl.out⟩
            · have g3 : decide ((0 : Int) ≤ g) = true := decide_eq_true g1
              have g4 : decide (g < (n : Int)) = false := decide_eq_false g2
              go_wp2_with fail
              with_reducible refine Calls.mono hnx ?_
              rintro e w2 ⟨rfl, hs2⟩
              replace hs2 := Lib.hid hs2
              clear hnx
              go_wp2_with fail
              go_meet
              exact ⟨_, _, hs2, by rw [hRn]; exact hl.out⟩
      case rest =>
        obtain ⟨v2, R2, hS2, hR2⟩ := hcut
        clear hr d00 hRk
        obtain ⟨sp5, cap5, hu5⟩ := own_slice hS2.out.row
        have hcnt : Hid (∀ q : Int, 0 ≤ q ∧ q < 6 → Calls Try.prog 42 #[.pointer (some ⟨p, 0, none⟩), .int .i64 q] wc (Still (.int .i64 (cnt R2 q)) wc)) := fun q hq => count_yes q hq wc hS2.out.ss.st
        have hcel : Hid (∀ j, j < R2.length → ∃ b cap, sp5 = some ⟨b, 0, none⟩ ∧ cap5 = cap ∧ wc.cell? ⟨b, j, none⟩ = some (.int .i64 (R2.getD j 0))) := fun j hj => by
          obtain ⟨b, cap, hv, _, _, k3, _⟩ := own_at hS2.out.row hj
          rw [hu5] at hv
          obtain ⟨e1, e2⟩ : sp5 = some ⟨b, 0, none⟩ ∧ cap5 = cap := by simpa using hv
          exact ⟨b, cap, e1, e2, k3⟩
        have htk : Hid (∀ q : Int, ∀ j, j < R2.length → cnt (R2.take (j + 1)) q = cnt (R2.take j) q + (if R2.getD j 0 = q then 1 else 0)) := fun q j hj => cnt_take R2 q hj
        have hfull : Hid (R2.take R2.length = R2) := List.take_length
        have hcl := len_any wc hS2.out.ss.st
        have hc0 := hcnt.out 0 (by omega)
        have hz0' : cnt R2 0 = 0 := by
          have key : ∀ L : List Int, (∀ x ∈ L, 1 ≤ x ∧ x ≤ 5) → cnt L 0 = 0 := fun L => by
            induction L with
            | nil => intro _; rfl
            | cons x L ih => intro h; have := h x List.mem_cons_self; show (if x = 0 then 1 else 0) + cnt L 0 = 0; rw [if_neg (by omega), ih (fun y hy => h y (List.mem_cons_of_mem _ hy))]; rfl
          exact key R2 hS2.out.ss.st.mem
        rw [hz0'] at hc0
        clear hz0'
        have hcm1 := count_no (p := p) (-1) (by omega) wc
        have hc6 := count_no (p := p) 6 (by omega) wc
        have hsum : Hid (sumTo R2 6 = R2.length) := sum_all R2 hS2.out.ss.st.mem
        have hsin : Hid (∀ q, 0 ≤ sumTo R2 q ∧ sumTo R2 q ≤ q * R2.length) := fun q => sum_in R2 q
        have hcin : Hid (∀ q, 0 ≤ cnt R2 q ∧ cnt R2 q ≤ R2.length) := fun q => cnt_in R2 q
        subst hu5
        obtain ⟨n, hn⟩ : ∃ n, R2.length = n := ⟨_, rfl⟩
        rw [hn] at hcel htk hfull hcl hsum hsin hcin hR2 ⊢
        go_wp2_with fail
        go_loopw [10, 11] (fun s q wr2 => ∃ c : Nat, q = .int .i64 c ∧ 1 ≤ c ∧ c ≤ 6 ∧ s = .int .i64 (sumTo R2 c) ∧ wr2 = wc) (fun _ q _ => (6 - (intOf q).toNat))
        case atStart => exact ⟨1, rfl, by omega, by omega, rfl, rfl⟩
        case round =>
          obtain ⟨c, rfl, c1, c2, rfl, rfl⟩ := hrel
          by_cases hc5 : c ≤ 5
          · have j1 : (c : Int) ≤ 5 := by omega
            have hcc := hcnt.out c (by omega)
            have s1 := hsin.out c
            have s2 := hcin.out c
            have hs3 : Hid (sumTo R2 (c + 1) = sumTo R2 c + cnt R2 c) := by show sumTo R2 c + _ = _; rw [if_neg (by omega)]
            have hb6 : (c : Int) * (n : Int) ≤ 600 := by
              have := Int.mul_le_mul (show (c : Int) ≤ 5 by omega) (show (n : Int) ≤ 101 by omega) (by omega) (by omega)
              omega
            have s3 : sumTo R2 c ≤ 600 := Int.le_trans s1.2 hb6
            have s4 := s1.1
            clear hcnt hcl hc0 hcm1 hc6 s1 hb6
            generalize sumTo R2 c = sm at *
            go_wp2_with fail
            go_loopw [12, 13] (fun u y wr3 => ∃ j : Nat, y = .int .i64 j ∧ j ≤ n ∧ u = .int .i64 (cnt (R2.take j) c) ∧ 0 ≤ cnt (R2.take j) c ∧ cnt (R2.take j) c ≤ j ∧ wr3 = wr) (fun _ y _ => (n - (intOf y).toNat))
            case atStart => exact ⟨0, rfl, by omega, rfl, by simp [cnt], by simp [cnt], rfl⟩
            case round =>
              obtain ⟨j, rfl, j1', rfl, j2, j3, rfl⟩ := hrel
              by_cases hj : j < n
              · have j4 : (j : Int) < (n : Int) := by omega
                have j5 : (0 : Int) ≤ (j : Int) := by omega
                obtain ⟨b, cap, rfl, rfl, hcell⟩ := hcel.out j hj
                have ht := htk.out c j hj
                generalize R2.getD j 0 = x at *
                by_cases hx : x = (c : Int)
                · rw [if_pos hx] at ht
                  have hx2 : (x == (c : Int)) = true := by rw [beq_iff_eq]; exact hx
                  replace ht := Lib.hid ht
                  replace hx := Lib.hid hx
                  generalize cnt (R2.take j) c = y at *
                  clear hcel
                  go_wp2_with fail
                  go_roundw
                  case rel => exact ⟨j + 1, by go_num, by omega, by rw [ht.out], by rw [ht.out]; omega, by rw [ht.out]; omega, by first | rfl | trivial⟩
                  case measure => simp [intOf]; omega
                · rw [if_neg hx, Int.add_zero] at ht
                  have hx2 : (x == (c : Int)) = false := by rw [beq_eq_false_iff_ne]; exact hx
                  replace ht := Lib.hid ht
                  replace hx := Lib.hid hx
                  generalize cnt (R2.take j) c = y at *
                  clear hcel
                  go_wp2_with fail
                  go_roundw
                  case rel => exact ⟨j + 1, by go_num, by omega, by rw [ht.out], by rw [ht.out]; omega, by rw [ht.out]; omega, by first | rfl | trivial⟩
                  case measure => simp [intOf]; omega
              · obtain rfl : j = n := by omega
                rw [hfull.out] at j2 j3 ⊢
                generalize cnt R2 c = y at *
                clear hcel
                go_wp2_with fail
                with_reducible refine Calls.mono hcc ?_
                rintro e w9 ⟨rfl, rfl⟩
                clear hcc
                go_wp2_with fail
                go_roundw
                case rel => exact ⟨c + 1, by go_num, by omega, by omega, by rw [hs3.out], by first | rfl | trivial⟩
                case measure => simp [intOf]; omega
          · obtain rfl : c = 6 := by omega
            rw [hsum.out]
            clear hcnt hcel htk hsin hcin hc5
            go_wp2_with fail
            with_reducible refine Calls.mono hcl ?_
            rintro e w9 ⟨rfl, rfl⟩
            go_wp2_with fail
            with_reducible refine Calls.mono hc0 ?_
            rintro e w9 ⟨rfl, rfl⟩
            go_wp2_with fail
            with_reducible refine Calls.mono hcm1 ?_
            rintro e w9 ⟨rfl, rfl⟩
            go_wp2_with fail
            with_reducible refine Calls.mono hc6 ?_
            rintro e w9 ⟨rfl, rfl⟩
            clear hcl hc0 hcm1 hc6
            rw [hn] at hS2
            go_wp2_with fail
            go_roundw
            case rel => exact ⟨k + 1, by go_num, by omega, by omega, _, _, hS2, by omega⟩
            case measure => simp [intOf]; omega
    · rcases (show (k < L0 ∧ k = 100) ∨ k = L0 by omega) with ⟨hk1, rfl⟩ | rfl
      · have e1 : decide ((100 : Int) < (L0 : Int)) = true := decide_eq_true (by omega)
        have e2 : (100 : Int) < (L0 : Int) := by omega
        rw [show ((100 : Nat) : Int) = (100 : Int) from rfl]
        clear hk
        obtain ⟨sp4, cap4, hu4⟩ := own_slice hS.out.row
        subst hu4
        have hcel : Hid (∀ W, Below wr.heap.size wr W → ∀ j, j < R.length → ∃ b cap, sp4 = some ⟨b, 0, none⟩ ∧ cap4 = cap ∧ W.cell? ⟨b, j, none⟩ = some (.int .i64 (R.getD j 0))) := fun W hb j hj => by
          obtain ⟨b, cap, hv, _, _, k3, _⟩ := own_at (hS.out.below hb).row hj
          obtain ⟨e1, e2⟩ : sp4 = some ⟨b, 0, none⟩ ∧ cap4 = cap := by simpa using hv
          exact ⟨b, cap, e1, e2, k3⟩
        have hof : Hid (∀ W, Below wr.heap.size wr W → ∀ j : Nat, j < R.length → ∀ c, Calls Try.prog 44 #[.pointer (some ⟨p, 0, none⟩), .int .i64 j] (W.drewN c) (Ans (.int .i64 (R.getD j 0)) (W.drewN c))) := fun W hb j hj c => ans_of_same (of_yes j hj (W.drewN c) (hS.out.below (below_drewN hb c)).ss.st)
        have hfn : Hid (∀ W, Below wr.heap.size wr W → Sq w W p v R (.slice sp4 R.length cap4) R) := fun W hb => hS.out.below hb
        have hst : Hid (wr.ownsRow wr.heap.size 3 1 (.slice none 0 0) (aliveTo R 0).length (cells (aliveTo R 0))) := World.ownsRow_nil _ _ _ _
        obtain ⟨n, hn⟩ : ∃ n, R.length = n := ⟨_, rfl⟩
        rw [hn] at hcel hof hfn hRk ⊢
        have hn100 : n ≤ 100 := by omega
        clear hS
        go_wp2_with fail
        go_loopw [14, 15] (fun u y wx => ∃ j : Nat, y = .int .i64 j ∧ j ≤ n ∧ Hid (wx.ownsRow wr.heap.size 3 1 u (aliveTo R j).length (cells (aliveTo R j))) ∧ Below wr.heap.size wr wx) (fun _ y _ => (n - (intOf y).toNat))
        case atStart => exact ⟨0, rfl, by omega, hst, Below.refl _ _⟩
        case round =>
          obtain ⟨j, rfl, j1, hown, hb⟩ := hrel
          clear hst
          by_cases hj : j < n
          · have j4 : (j : Int) < (n : Int) := by omega
            have j5 : (0 : Int) ≤ (j : Int) := by omega
            have hof2 := Lib.hid (hof.out _ hb j hj)
            obtain ⟨b, cap, rfl, rfl, hcell⟩ := hcel.out _ hb j hj
            have hle := alive_le R j
            have hbs := hb.size
            by_cases h5 : R.getD j 0 = 5
            · have hnx : Hid (aliveTo R (j + 1) = aliveTo R j) := by show aliveTo R j ++ _ = _; rw [if_pos h5, List.append_nil]
              have hx5 : (R.getD j 0 == 5) = true := by rw [beq_iff_eq]; exact h5
              replace h5 := Lib.hid h5
              generalize R.getD j 0 = x at *
              clear hcel hof hfn
              go_wp2_with fail
              go_quiet ((go_at_call 44; refine quiet_ans1 (hof2.out _)))
              have hb2 := below_drewN hb nq
              go_wp2_with fail
              go_roundw
              case rel => exact ⟨j + 1, by go_num, by omega, by rw [hnx.out]; exact hown, hb2⟩
              case measure => simp [intOf]; omega
            · have hnx : Hid (aliveTo R (j + 1) = aliveTo R j ++ [(j : Int)]) := by show aliveTo R j ++ _ = _; rw [if_neg h5]
              have hx5 : (R.getD j 0 == 5) = false := by rw [beq_eq_false_iff_ne]; exact h5
              replace h5 := Lib.hid h5
              generalize R.getD j 0 = x at *
              obtain ⟨q, hq⟩ : ∃ q, (aliveTo R j).length = q := ⟨_, rfl⟩
              obtain ⟨spu, capu, rfl⟩ := own_slice hown.out
              rw [hq] at hown hle ⊢
              have hnq : Hid ((aliveTo R (j + 1)).length = q + 1) := by rw [hnx.out, List.length_append, hq]; rfl
              have hnc : Hid (cells (aliveTo R (j + 1)) = cells (aliveTo R j) ++ [.int .i64 j]) := by rw [hnx.out, cells_app]; rfl
              clear hcel hof hfn hq hnx
              generalize cells (aliveTo R j) = CA at *
              go_wp2_with fail
              go_quiet ((go_at_call 44; refine quiet_ans1 (hof2.out _)))
              have hb2 := below_drewN hb nq
              have hown2 : Hid (World.ownsRow (wr.drewN nq) _ 3 1 _ q CA) := hown
              have hcell2 : (wr.drewN nq).cell? ⟨b, j, none⟩ = some (.int .i64 x) := hcell
              generalize wr.drewN nq = w2 at *
              have hbs2 := hb2.size
              have hkeep := Lib.hid (fun (W : World) (hg : (w2.alloc (.cells #[.int .i64 j] 3)).grownBy W (Value.slice spu q capu).ownBlock) => (below_alloc hb2 (.cells #[.int .i64 j] 3)).trans (Below.grown (Below.refl _ _) hg (by show _ ≤ (w2.heap.push _).size; rw [Array.size_push]; omega) (fun r hr => (hown2.out.lt r hr).1)))
              go_wp2_with (at_builtin; refine wpList_append_own _ rfl _ _ 26 rfl _ 3 i0 (.int .i64 0) 1 8 Try.underlying26 hi0 hz0 hz1 hz2 rfl (by decide) _ q CA rfl (hown2.out.alloc _) ⟨w2.heap.size, 0, none⟩ 1 1 [.int .i64 j] rfl rfl (news_one w2 (.int .i64 j) 3) (fun x hx => by simp at hx; subst hx; rfl) (by unfold maxLen; omega) (by omega) (by show _ ≤ (w2.heap.push _).size; rw [Array.size_push]; omega) ?_; intro v' w3 hown3 hgrow hnil; clear hnil; have hb3 := hkeep.out _ hgrow; clear hgrow; replace hown3 := Lib.hid hown3)
              go_roundw
              case rel => exact ⟨j + 1, by go_num, by omega, by rw [hnq.out, hnc.out]; exact hown3, hb3⟩
              case measure => simp [intOf]; omega
          · obtain rfl : j = n := by omega
            have hsq := hfn.out _ hb
            obtain ⟨spu, capu, rfl⟩ := own_slice hown.out
            clear hcel hof hfn
            go_wp2_with fail
            with_reducible refine Calls.mono (ct _) ?_
            rintro e w2 ⟨rfl, hb2⟩
            have hsq2 := hsq.below hb2
            have hi2 : Ints w2 (fun _ => True) (.slice spu (aliveTo R j).length capu) (aliveTo R j) := ((ints_of_owns hown.out).wider (fun _ _ _ => trivial)).below hb2
            have ca := alive_any w2 hsq2.ss.st
            rw [hn] at ca
            clear hsq hb2 hown
            go_wp2_with fail
            with_reducible refine Calls.mono (ca) ?_
            rintro e w3 ⟨v3, rfl, hb3, ho3⟩
            have ci := ints_any (ints_of_owns ho3) (hi2.below hb3)
            obtain ⟨sp3, cap3, rfl⟩ := own_slice ho3
            have hsq3 := Lib.hid (hsq2.below hb3)
            clear ca hi2 hsq2 hb3 ho3
            go_wp2_with fail
            with_reducible refine Calls.mono (ci) ?_
            rintro e w4 ⟨rfl, c4, rfl⟩
            have hsq4 := hsq3.out.below (below_drewN (Below.refl _ _) c4)
            have co := of_no (-1) (by omega) _ hsq4.ss.st
            have hfin := Lib.hid hsq4.ss.bel
            clear ci hsq3 hsq4
            go_wp2_with fail
            with_reducible refine Calls.mono (co) ?_
            rintro e w5 ⟨rfl, rfl⟩
            clear co
            go_wp2_with fail
            go_ret
            exact ⟨rfl, hfin.out⟩
      · clear hk
        obtain ⟨sp4, cap4, hu4⟩ := own_slice hS.out.row
        subst hu4
        have hcel : Hid (∀ W, Below wr.heap.size wr W → ∀ j, j < R.length → ∃ b cap, sp4 = some ⟨b, 0, none⟩ ∧ cap4 = cap ∧ W.cell? ⟨b, j, none⟩ = some (.int .i64 (R.getD j 0))) := fun W hb j hj => by
          obtain ⟨b, cap, hv, _, _, k3, _⟩ := own_at (hS.out.below hb).row hj
          obtain ⟨e1, e2⟩ : sp4 = some ⟨b, 0, none⟩ ∧ cap4 = cap := by simpa using hv
          exact ⟨b, cap, e1, e2, k3⟩
        have hof : Hid (∀ W, Below wr.heap.size wr W → ∀ j : Nat, j < R.length → ∀ c, Calls Try.prog 44 #[.pointer (some ⟨p, 0, none⟩), .int .i64 j] (W.drewN c) (Ans (.int .i64 (R.getD j 0)) (W.drewN c))) := fun W hb j hj c => ans_of_same (of_yes j hj (W.drewN c) (hS.out.below (below_drewN hb c)).ss.st)
        have hfn : Hid (∀ W, Below wr.heap.size wr W → Sq w W p v R (.slice sp4 R.length cap4) R) := fun W hb => hS.out.below hb
        have hst : Hid (wr.ownsRow wr.heap.size 3 1 (.slice none 0 0) (aliveTo R 0).length (cells (aliveTo R 0))) := World.ownsRow_nil _ _ _ _
        obtain ⟨n, hn⟩ : ∃ n, R.length = n := ⟨_, rfl⟩
        rw [hn] at hcel hof hfn hRk ⊢
        have hn100 : n ≤ 100 := by omega
        clear hS
        go_wp2_with fail
        go_loopw [14, 15] (fun u y wx => ∃ j : Nat, y = .int .i64 j ∧ j ≤ n ∧ Hid (wx.ownsRow wr.heap.size 3 1 u (aliveTo R j).length (cells (aliveTo R j))) ∧ Below wr.heap.size wr wx) (fun _ y _ => (n - (intOf y).toNat))
        case atStart => exact ⟨0, rfl, by omega, hst, Below.refl _ _⟩
        case round =>
          obtain ⟨j, rfl, j1, hown, hb⟩ := hrel
          clear hst
          by_cases hj : j < n
          · have j4 : (j : Int) < (n : Int) := by omega
            have j5 : (0 : Int) ≤ (j : Int) := by omega
            have hof2 := Lib.hid (hof.out _ hb j hj)
            obtain ⟨b, cap, rfl, rfl, hcell⟩ := hcel.out _ hb j hj
            have hle := alive_le R j
            have hbs := hb.size
            by_cases h5 : R.getD j 0 = 5
            · have hnx : Hid (aliveTo R (j + 1) = aliveTo R j) := by show aliveTo R j ++ _ = _; rw [if_pos h5, List.append_nil]
              have hx5 : (R.getD j 0 == 5) = true := by rw [beq_iff_eq]; exact h5
              replace h5 := Lib.hid h5
              generalize R.getD j 0 = x at *
              clear hcel hof hfn
              go_wp2_with fail
              go_quiet ((go_at_call 44; refine quiet_ans1 (hof2.out _)))
              have hb2 := below_drewN hb nq
              go_wp2_with fail
              go_roundw
              case rel => exact ⟨j + 1, by go_num, by omega, by rw [hnx.out]; exact hown, hb2⟩
              case measure => simp [intOf]; omega
            · have hnx : Hid (aliveTo R (j + 1) = aliveTo R j ++ [(j : Int)]) := by show aliveTo R j ++ _ = _; rw [if_neg h5]
              have hx5 : (R.getD j 0 == 5) = false := by rw [beq_eq_false_iff_ne]; exact h5
              replace h5 := Lib.hid h5
              generalize R.getD j 0 = x at *
              obtain ⟨q, hq⟩ : ∃ q, (aliveTo R j).length = q := ⟨_, rfl⟩
              obtain ⟨spu, capu, rfl⟩ := own_slice hown.out
              rw [hq] at hown hle ⊢
              have hnq : Hid ((aliveTo R (j + 1)).length = q + 1) := by rw [hnx.out, List.length_append, hq]; rfl
              have hnc : Hid (cells (aliveTo R (j + 1)) = cells (aliveTo R j) ++ [.int .i64 j]) := by rw [hnx.out, cells_app]; rfl
              clear hcel hof hfn hq hnx
              generalize cells (aliveTo R j) = CA at *
              go_wp2_with fail
              go_quiet ((go_at_call 44; refine quiet_ans1 (hof2.out _)))
              have hb2 := below_drewN hb nq
              have hown2 : Hid (World.ownsRow (wr.drewN nq) _ 3 1 _ q CA) := hown
              have hcell2 : (wr.drewN nq).cell? ⟨b, j, none⟩ = some (.int .i64 x) := hcell
              generalize wr.drewN nq = w2 at *
              have hbs2 := hb2.size
              have hkeep := Lib.hid (fun (W : World) (hg : (w2.alloc (.cells #[.int .i64 j] 3)).grownBy W (Value.slice spu q capu).ownBlock) => (below_alloc hb2 (.cells #[.int .i64 j] 3)).trans (Below.grown (Below.refl _ _) hg (by show _ ≤ (w2.heap.push _).size; rw [Array.size_push]; omega) (fun r hr => (hown2.out.lt r hr).1)))
              go_wp2_with (at_builtin; refine wpList_append_own _ rfl _ _ 26 rfl _ 3 i0 (.int .i64 0) 1 8 Try.underlying26 hi0 hz0 hz1 hz2 rfl (by decide) _ q CA rfl (hown2.out.alloc _) ⟨w2.heap.size, 0, none⟩ 1 1 [.int .i64 j] rfl rfl (news_one w2 (.int .i64 j) 3) (fun x hx => by simp at hx; subst hx; rfl) (by unfold maxLen; omega) (by omega) (by show _ ≤ (w2.heap.push _).size; rw [Array.size_push]; omega) ?_; intro v' w3 hown3 hgrow hnil; clear hnil; have hb3 := hkeep.out _ hgrow; clear hgrow; replace hown3 := Lib.hid hown3)
              go_roundw
              case rel => exact ⟨j + 1, by go_num, by omega, by rw [hnq.out, hnc.out]; exact hown3, hb3⟩
              case measure => simp [intOf]; omega
          · obtain rfl : j = n := by omega
            have hsq := hfn.out _ hb
            obtain ⟨spu, capu, rfl⟩ := own_slice hown.out
            clear hcel hof hfn
            go_wp2_with fail
            with_reducible refine Calls.mono (ct _) ?_
            rintro e w2 ⟨rfl, hb2⟩
            have hsq2 := hsq.below hb2
            have hi2 : Ints w2 (fun _ => True) (.slice spu (aliveTo R j).length capu) (aliveTo R j) := ((ints_of_owns hown.out).wider (fun _ _ _ => trivial)).below hb2
            have ca := alive_any w2 hsq2.ss.st
            rw [hn] at ca
            clear hsq hb2 hown
            go_wp2_with fail
            with_reducible refine Calls.mono (ca) ?_
            rintro e w3 ⟨v3, rfl, hb3, ho3⟩
            have ci := ints_any (ints_of_owns ho3) (hi2.below hb3)
            obtain ⟨sp3, cap3, rfl⟩ := own_slice ho3
            have hsq3 := Lib.hid (hsq2.below hb3)
            clear ca hi2 hsq2 hb3 ho3
            go_wp2_with fail
            with_reducible refine Calls.mono (ci) ?_
            rintro e w4 ⟨rfl, c4, rfl⟩
            have hsq4 := hsq3.out.below (below_drewN (Below.refl _ _) c4)
            have co := of_no (-1) (by omega) _ hsq4.ss.st
            have hfin := Lib.hid hsq4.ss.bel
            clear ci hsq3 hsq4
            go_wp2_with fail
            with_reducible refine Calls.mono (co) ?_
            rintro e w5 ⟨rfl, rfl⟩
            clear co
            go_wp2_with fail
            go_ret
            exact ⟨rfl, hfin.out⟩

set_option maxRecDepth 100000 in
theorem lifted (os : Os) (started : os.Started) (H : Type) (enc : TypeId × Value → H) :
    ReturnsInHanded {} Try.checked os 11 .any (Rows.statePlaysSpec.pre6 enc Try.prog Try.f11 Rows.statePlaysRow.domain false) (Rows.statePlaysSpec.post enc Try.prog Try.f11 false true false false) := by
  refine returnsInHanded_of_change (C := Try.checked) own started (by kernel_rfl) Try.func11
    (ChangeSpec.witness6 (enc := enc) (C := Try.checked) false ⟨#[], #[.slice none 0 0], []⟩ 8 (by kernel_rfl) (by kernel_rfl) (by kernel_rfl) (by kernel_rfl)) ?_
  intro W base args ds gs before hval0 hW hcnd _
  have hval : ∀ (j : Nat) t v, Try.f11.params[j]? = some t → args[j]? = some v → Value.okWide Try.prog W .any base t v := hval0
  have hW' := hW
  obtain ⟨p, q, hA0, hV, rfl, hfz, hnd⟩ := hW
  have hA : DataW.TrodAll enc Try.prog W 0 (fun _ => true) true Try.f11.params.toList args.toList ds p := hA0
  rw [Try.params11] at hA hval
  obtain ⟨v0, vs0, d0, ds0, p0, q0, hargs, rfl, rfl, h0, r0⟩ := trodAll_cons hA
  obtain ⟨rfl, rfl, rfl⟩ := trodAll_nil r0
  obtain rfl : args = #[v0] := by cases args; simp_all
  obtain ⟨rfl, rfl⟩ := trodVars_none hV
  obtain ⟨L0, kf0, gf0, tf0, i0⟩ := op12_arg (hval 0 60 v0 rfl rfl) h0
  clear hA0 hval0
  simp only [List.append_nil] at hW'
  have lt0 : ∀ x ∈ p0, x.block < W.heap.size := fun x hx => by have := hW'.lt x (by simp [hx]); simpa using this
  refine (walk v0 L0 kf0 gf0 tf0 W i0).mono fun e W' ⟨he, hg⟩ => ?_
  subst he
  exact ⟨_, rfl, post_of_kept (pa := _) (pv := []) hW' (fun _ _ _ => (trodAll_cons_mk (shut_bool Try.underlying4 _) trodAll_mk0)) (trodAll_cons_mk (Below.trod laidOut (by kernel_rfl) (of_decide_eq_true (by kernel_rfl)) h0 hg lt0) trodAll_mk0) (fun _ _ => rfl) (by simp) hg⟩

theorem over : Rows.statePlaysRow.holds Try.pinned (OpenSpec.ofChange Rows.statePlaysSpec) :=
  OpenClaim.holds_of_wide 11 Try.f11 rfl rfl rfl rfl rfl rfl rfl ⟨rfl, rfl, rfl, rfl, rfl⟩ rfl rfl rfl rfl rfl (by kernel_rfl) Try.func11 (by kernel_rfl)
    (of_decide_eq_true (by kernel_rfl)) (by unfold Func.isWrapper; first | (rw [if_pos (by decide +kernel)]; kernel_rfl) | (rw [if_neg (by decide +kernel)]; exact ⟨rfl, rfl⟩))
    (fun os started H enc _ => lifted os started H enc)

theorem proved : Rows.StatePlaysSaid :=
  over
#print axioms proved
end Go.Proofs.Yteigcjgohhgjcaa.statePlays
