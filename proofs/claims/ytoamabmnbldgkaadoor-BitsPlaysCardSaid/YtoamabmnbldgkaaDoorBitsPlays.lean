/- For any two whole numbers and any slice of operations the statement BitsPlays answers true and leaves its arguments as they were: sets that are played on against rising lists. The library's table math/bits.deBruijn64tab lies as its initialiser lays it (tied by the card); no other condition. -/
import Derived.Test.YtoamabmnbldgkaaDoorPlaysCut
import Derived.WalkKit
import Derived.ProofKit
import Derived.OpenShut
import Derived.Test.YtoamabmnbldgkaaDoorTie
import Derived.Test.YtoamabmnbldgkaaDoorCards
import Derived.LaidMore
import Derived.Stop.Joined
import Derived.SevenTiedAt
namespace Go.Proofs.YtoamabmnbldgkaaDoor.bitsPlays
open Go.ChangeShapes Go.WideShapes Go.ChangeAt Go.WideElems Go.RowKit Go.Lib Fx Bm
set_option linter.unusedVariables false

theorem own : ownKnob Tryd.prog.godebug = none := by kernel_rfl

set_option maxRecDepth 100000 in
set_option maxHeartbeats 4000000 in
theorem walk (a0 : Int) (a1 : Int) (v2 : Value) (L2 : Nat) (kf2 xf2 : Nat → Int) (hf2 : Nat → Bool) (w : World) (hT : TabAt w) (h2 : OpsArg w v2 L2 kf2 xf2 hf2) :
    Calls Tryd.prog 3 #[.int .i64 a0, .int .i64 a1, v2] w fun e w' => e = .returned (.bool true) ∧ Below w.heap.size w w' := by
  obtain ⟨Y, hY⟩ : ∃ Y : Int, IntKind.u64.wrap a0 = Y := ⟨_, rfl⟩
  obtain ⟨Z, hZ⟩ : ∃ Z : Int, IntKind.u64.wrap a1 = Z := ⟨_, rfl⟩
  have y0 : 0 ≤ Y := by rw [← hY, IntKind.wrap_u64]; omega
  have z0 : 0 ≤ Z := by rw [← hZ, IntKind.wrap_u64]; omega
  obtain ⟨n, hn⟩ : ∃ n : Nat, Y % 301 = (n : Int) := ⟨(Y % 301).toNat, by omega⟩
  obtain ⟨m, hm⟩ : ∃ m : Nat, Z % 301 = (m : Int) := ⟨(Z % 301).toNat, by omega⟩
  have n1 : n ≤ 16777216 := by omega
  have m1 : m ≤ 16777216 := by omega
  have cnew := setnew_any n n1 w
  have hlt := hT.lt
  obtain ⟨sp2, cap2, rfl, hl2, hc2⟩ := h2.at_
  clear h2
  have hc2 : Hid _ := hc2
  go_enter Tryd.func3, Tryd.ntmps3
  go_wp2_with fail
  with_reducible refine Calls.mono (cnew) ?_
  rintro e w1 ⟨rfl, hb1, hs1⟩
  obtain ⟨b, hbe⟩ : ∃ b, b = w.heap.size := ⟨_, rfl⟩
  have hbw : w.heap.size ≤ b := by omega
  rw [← hbe] at hs1 ⊢
  clear hbe cnew
  obtain ⟨M0, hM⟩ : ∃ M : Nat → Bool, (fun _ => false) = M := ⟨_, rfl⟩
  rw [hM] at hs1
  go_wp2_with fail
  with_reducible refine Calls.mono (setnew_any m m1 w1) ?_
  rintro e w2 ⟨rfl, hb2, ho1⟩
  rw [hM] at ho1
  obtain ⟨c, hce⟩ : ∃ c, c = w1.heap.size := ⟨_, rfl⟩
  have hbc : b + 1 < c := by rw [hce]; exact hs1.lt
  rw [← hce] at ho1 ⊢
  have hs2 := hs1.below hb2
  have hb3 := below_then hb1 hb2
  have em : ∀ q, mem M0 q = [] := fun q => by rw [← hM]; unfold mem; simp
  have hv0 : LAt w2 w2.heap.size (.slice none 0 0) (mem M0 n) := Or.inl ⟨rfl, em n⟩
  have hu0 : LAt w2 w2.heap.size (.slice none 0 0) (mem M0 m) := Or.inl ⟨rfl, em m⟩
  have hlo0 : c + 1 < w2.heap.size := ho1.lt
  clear hce hM hs1 hb1 hb2 em
  have cl := setlen_any (b + 1) n w2 hs2.c0
  go_wp2_with fail
  with_reducible refine Calls.mono (cl) ?_
  rintro e w3 ⟨rfl, rfl⟩
  clear cl
  have n3 : n ≤ 300 := by omega
  have m3 : m ≤ 300 := by omega
  go_wp2_with fail
  obtain ⟨lo, hlo⟩ : ∃ lo, lo = w2.heap.size := ⟨_, rfl⟩
  rw [← hlo] at hv0 hu0 hlo0
  have hlo2 : lo ≤ w2.heap.size := by omega
  go_loopw [11, 12, 13] (fun u v t wr => ∃ (i : Nat) (M N : Nat → Bool), t = .int .i64 i ∧ i ≤ L2 ∧ IsSet wr (b + 1) b n M ∧ IsSet wr (c + 1) c m N ∧ LAt wr lo u (mem M n) ∧ LAt wr lo v (mem N m) ∧ lo ≤ wr.heap.size ∧ Below w.heap.size w wr) (fun _ _ t _ => (L2 - (intOf t).toNat))
  case atStart => exact ⟨0, _, _, rfl, by omega, hs2, ho1, hv0, hu0, hlo2, hb3⟩
  case round =>
    obtain ⟨i, M, N, rfl, i1, hs, ho, hl, hk, hlo3, hb⟩ := hrel
    clear hs2 ho1 hv0 hu0 hlo2 hlo hb3
    by_cases hi : i < L2 ∧ i < 60
    · obtain ⟨hi, hi6⟩ := hi
      obtain ⟨b0, off, rfl, hb0, k0, k1, k2, wf0, wf1⟩ := hc2.out i hi
      rw [← Nat.add_assoc] at k1 k2
      replace k0 := (hb.cell hb0).trans k0
      replace k1 := (hb.cell hb0).trans k1
      replace k2 := (hb.cell hb0).trans k2
      have i2 : (i : Int) < (L2 : Int) := by omega
      have i3 : (i : Int) < 60 := by omega
      generalize kf2 i = kd at *
      generalize xf2 i = x at *
      generalize hf2 i = hh at *
      have x1 := bounds_i64 wf1
      have x2 := bounds_i64 wf0
      obtain ⟨u, rfl⟩ : ∃ u, u = u11 := ⟨_, rfl⟩
      obtain ⟨v, rfl⟩ : ∃ v, v = u12 := ⟨_, rfl⟩
      obtain ⟨p, hp⟩ : ∃ p, wr.heap.size = p := ⟨_, rfl⟩
      have hrd : Hid (Rd w lo b c n m p kd x hh M N u v (wr.alloc (.cells #[.int .i64 kd, .int .i64 x, .bool hh] 29))) := by
        have hbA : Below wr.heap.size wr (wr.alloc (.cells #[.int .i64 kd, .int .i64 x, .bool hh] 29)) := below_alloc (Below.refl _ _) _
        exact ⟨hs.below hbA, ho.below hbA, hl.below hbA, hk.below hbA, Nat.le_trans hlo3 hbA.size, ⟨hbc, hlo0, by omega, hbw⟩, below_then hb hbA, by rw [← hp]; exact heap_alloc_new _ _⟩
      obtain ⟨ι, hι⟩ : ∃ ι : Bool, decide (0 ≤ x ∧ x < (n : Int)) = ι := ⟨_, rfl⟩
      replace hι := Lib.hid hι
      clear hs ho hl hk hlo3 hb
      go_upto_region 10 with fail
      go_cut [15] (fun s15 wx => s15 = .bool ι ∧ Hid (Rd w lo b c n m p kd x hh M N u v wx))
      case first =>
        by_cases x0 : 0 ≤ x
        · have xd : decide (0 ≤ x) = true := decide_eq_true x0
          by_cases x1 : x < (n : Int)
          · have xe : decide (x < (n : Int)) = true := decide_eq_true x1
            go_wp2_with fail
            go_meet
            exact ⟨by rw [← hι.out, decide_eq_true (show 0 ≤ x ∧ x < (n : Int) from ⟨x0, x1⟩)], hrd⟩
          · have xe : decide (x < (n : Int)) = false := decide_eq_false x1
            go_wp2_with fail
            go_meet
            exact ⟨by rw [← hι.out, decide_eq_false (show ¬ (0 ≤ x ∧ x < (n : Int)) from fun h => by omega)], hrd⟩
        · have xd : decide (0 ≤ x) = false := decide_eq_false x0
          go_wp2_with fail
          go_meet
          exact ⟨by rw [← hι.out, decide_eq_false (show ¬ (0 ≤ x ∧ x < (n : Int)) from fun h => by omega)], hrd⟩
      case rest =>
        obtain ⟨rfl, hr⟩ := hcut
        clear hrd hp
        have q0 := hr.out.q0
        have q1 := hr.out.q1
        have q2 := hr.out.q2
        have ch := rhas_any x (hr.out.l.ints (by have := mem_max M n; omega))
        rw [mem_ints hr.out.s.out] at ch
        obtain ⟨had, hhad⟩ : ∃ had : Bool, hasI M x = had := ⟨_, rfl⟩
        rw [hhad] at ch
        replace hhad := Lib.hid hhad
        go_wp2_with fail
        with_reducible refine Calls.mono (ch) ?_
        rintro e w' ⟨rfl, rfl⟩
        clear ch
        go_upto_block 2 with fail
        go_cut [11, 12] (fun s11 s12 wx => ∃ M2 N2, Hid (Rd w lo b c n m p kd x hh M2 N2 s11 s12 wx))
        case first =>
          go_wp2_with fail
          iterate 2
            · have cs := setset_any x wc hr.out.s
              rw [hι.out, hhad.out] at cs
              with_reducible refine Calls.mono cs ?_
              rintro e w5 ⟨rfl, hg, hs5⟩
              have ho5 := hr.out.opk (r := b) (by have := hr.out.bc; omega) hg
              obtain ⟨p0, p1, p2, lo5⟩ := ho5
              clear cs q0 q1 q2
              cases ι with
              | true =>
                have hx := of_decide_eq_true hι.out
                obtain ⟨k, rfl⟩ : ∃ k : Nat, x = (k : Int) := ⟨x.toNat, by omega⟩
                have hl5 := hr.out.lk hg
                have cp := rput_at k (by omega) n3 lo5 hl5
                rw [setM_in hx.1 hx.2, Int.toNat_natCast] at hs5
                replace hs5 := Lib.hid hs5
                replace hg := Lib.hid hg
                clear hl5 hx
                go_wp2_with fail
                with_reducible refine Calls.mono cp ?_
                rintro e w6 ⟨v', rfl, hb6, hl6⟩
                have hr6 := Lib.hid (hr.out.sets_put hg.out hs5.out hb6 hl6)
                clear cp hr hs5 hg hb6 hl6 p0 p1 p2 lo5
                go_wp2_with fail
                go_meet
                exact ⟨_, _, hr6⟩
              | false =>
                rw [setM_out (of_decide_eq_false hι.out)] at hs5
                have hr6 := Lib.hid (hr.out.sets hg hs5 hr.out.l)
                clear hr hs5 hg
                go_wp2_with fail
                go_meet
                exact ⟨_, _, hr6⟩
          · have cs := setclr_any x wc hr.out.s
            rw [hhad.out] at cs
            with_reducible refine Calls.mono cs ?_
            rintro e w5 ⟨rfl, hg, hs5⟩
            have ho5 := hr.out.opk (r := b) (by have := hr.out.bc; omega) hg
            obtain ⟨p0, p1, p2, lo5⟩ := ho5
            have hl5 := hr.out.lk hg
            clear cs q0 q1 q2
            cases had with
            | true =>
              have hx := hasI_rng (n := n) hr.out.s.out hhad.out
              obtain ⟨k, rfl⟩ : ∃ k : Nat, x = (k : Int) := ⟨x.toNat, by omega⟩
              have hMk : M k = true := by have := hhad.out; rw [hasI_in' (by omega), Int.toNat_natCast] at this; exact this
              have cp := rout_at k (by omega) n3 lo5 hMk hl5
              rw [clrM_in hx.1, Int.toNat_natCast] at hs5
              replace hs5 := Lib.hid hs5
              replace hg := Lib.hid hg
              clear hl5 hx hMk
              go_wp2_with fail
              with_reducible refine Calls.mono cp ?_
              rintro e w6 ⟨v', rfl, hb6, hl6⟩
              have hr6 := Lib.hid (hr.out.sets_put hg.out hs5.out hb6 hl6)
              clear cp hr hs5 hg hb6 hl6 p0 p1 p2 lo5
              go_wp2_with fail
              go_meet
              exact ⟨_, _, hr6⟩
            | false =>
              rw [clrM_same hhad.out] at hs5
              have hr6 := Lib.hid (hr.out.sets hg hs5 hr.out.l)
              have cp := rout_no x n3 hr6.out.s.out hhad.out hl5
              clear hr hs5 hg hl5
              go_wp2_with fail
              with_reducible refine Calls.mono cp ?_
              rintro e w6 ⟨rfl, rfl⟩
              clear cp p0 p1 p2 lo5
              go_wp2_with fail
              go_meet
              exact ⟨_, _, hr6⟩
          · have c1 : Hid (∀ j, Calls Tryd.prog 16 #[.pointer (some ⟨b + 1, 0, none⟩), .int .i64 x, .bool hh] (wc.drewN j) (Ans (.int .i64 (nextI M n x.toNat hh)) (wc.drewN j))) := fun j => Same.ans (setnext_any x hh _ (hr.out.s.drewN j) ((hT.below hr.out.bl).drewN j))
            have c2 : Hid (∀ j, Calls Tryd.prog 17 #[u, .int .i64 n, .int .i64 x, .bool hh] (wc.drewN j) (Ans (.int .i64 (nextI M n x.toNat hh)) (wc.drewN j))) := fun j => Same.ans (lnext_any n3 hr.out.s.out x hh ((hr.out.drewN j).l.ints (by have := mem_max M n; omega)))
            generalize nextI M n x.toNat hh = R at *
            go_quiet (first | (go_at_call 16; refine quiet_one (c1.out _)) | (go_at_call 17; refine quiet_one (c2.out _)))
            have hr6 := Lib.hid (hr.out.drewN nq)
            clear c1 c2 hr q0 q1 q2
            go_wp2_with fail
            go_meet
            exact ⟨_, _, hr6⟩
          · by_cases hnm : n = m
            · subst hnm
              have cs := setcopy_any wc hr.out.s hr.out.o
              with_reducible refine Calls.mono cs ?_
              rintro e w5 ⟨rfl, hg, hs5⟩
              have ho5 := hr.out.opk (r := b) (by have := hr.out.bc; omega) hg
              obtain ⟨p0, p1, p2, lo5⟩ := ho5
              have hk5 := (hr.out.k.keep hg (fun c hc => by cases hc; have := hr.out.bc; omega))
              replace hs5 := Lib.hid hs5
              replace hg := Lib.hid hg
              clear cs q0 q1 q2
              obtain ⟨i0, hii, hz0, hz1, hz2⟩ := info_parts infoI
              have hmx := mem_max N n
              rcases hk5 with ⟨rfl, hnil⟩ | ⟨g, cap, rfl, hc5, hlog, hgl, hcell⟩
              · replace hnil := Lib.hid hnil
                go_wp2_with (at_builtin; refine wpList_append_own_none rfl _ _ 27 rfl lo 3 i0 1 Tryd.underlying27 hii _ 0 [] rfl (own_empty (heap_alloc_new _ _) lo5) rfl ?_)
                go_meet
                have hb6 : Below w5.heap.size w5 (w5.alloc (.cells #[] 3)) := below_alloc (Below.refl _ _) _
                exact ⟨_, _, hr.out.sets_put hg.out hs5.out hb6 (Or.inr ⟨w5.heap.size, 0, by rw [hnil.out]; rfl, by rw [hnil.out]; exact Nat.le_refl _, lo5, by simp, fun i hi => by rw [hnil.out] at hi; simp at hi⟩)⟩
              · have hlen : (mem N n).length ≤ 300 := by omega
                have hcn := cells_news (W := w5.alloc (.cells #[] 3)) (g := g) (zs := mem N n) rfl (fun i hi => cell_then (below_alloc (Below.refl _ _) _) (hcell i hi))
                have hlc : (cellsOf (mem N n)).length = (mem N n).length := by unfold cellsOf; rw [List.length_map]
                replace hcell := Lib.hid hcell
                replace hcn := Lib.hid hcn
                replace hlc := Lib.hid hlc
                go_wp2_with (at_builtin; refine wpList_append_own _ rfl _ _ 27 rfl lo 3 i0 (.int .i64 0) 1 8 Tryd.underlying27 hii hz0 hz1 hz2 rfl (by decide) _ 0 [] rfl (own_empty (heap_alloc_new _ _) lo5) ⟨g, 0, none⟩ _ _ (cellsOf (mem N n)) rfl (by rw [hlc.out, Nat.mul_one]) hcn.out (ones _) (by unfold maxLen; omega) (by omega) (by simp; omega) ?_; intro v' w6 hown6 hgrow hnil; clear hnil; replace hown6 := Lib.hid hown6; replace hgrow := Lib.hid hgrow)
                go_meet
                have hb6 : Below w5.heap.size w5 w6 := by
                  have h1 : Below w5.heap.size w5 (w5.alloc (.cells #[] 3)) := below_alloc (Below.refl _ _) _
                  refine Below.grown h1 hgrow.out (by simp) fun k hk => ?_
                  cases hk
                  exact Nat.le_refl _
                have h6 := hown6.out
                rw [Nat.zero_add, List.nil_append] at h6
                exact ⟨_, _, hr.out.sets_put hg.out hs5.out hb6 (LAt.of_owns h6 (Nat.le_refl _))⟩
            · have he : ((n : Int) == (m : Int)) = false := by rw [beq_eq_false_iff_ne]; omega
              have he2 : ((n : Int) != (m : Int)) = true := by simp [bne, he]
              have cs := setcopy_not wc hr.out.s hr.out.o hnm
              with_reducible refine Calls.mono cs ?_
              rintro e w' ⟨rfl, k1, rfl⟩
              have hr6 := Lib.hid (hr.out.drewN k1)
              clear cs hr q0 q1 q2
              go_wp2_with fail
              go_meet
              exact ⟨_, _, hr6⟩
          · by_cases hin : 0 ≤ x ∧ x < (m : Int)
            · obtain ⟨k, rfl⟩ : ∃ k : Nat, x = (k : Int) := ⟨x.toNat, by omega⟩
              have hb2 := rhas_any (k : Int) (hr.out.k.ints (by have := mem_max N m; omega))
              have cs := setset_any (k : Int) wc hr.out.o
              rw [decide_eq_true hin, Bool.true_and, setM_in hin.1 hin.2, hasI_in' hin.1, Int.toNat_natCast] at cs
              cases hNk : N k with
              | true =>
                rw [hNk, upd_same hNk] at cs
                with_reducible refine Calls.mono cs ?_
                rintro e w5 ⟨rfl, hg, hs5⟩
                have ho5 := hr.out.opk (r := c) (by have := hr.out.bc; omega) hg
                obtain ⟨p0, p1, p2, lo5⟩ := ho5
                have hr6 := Lib.hid (hr.out.seto hg hs5 hr.out.k)
                clear cs q0 q1 q2 hr hg hs5 hb2 hin hNk
                go_wp2_with fail
                go_meet
                exact ⟨_, _, hr6⟩
              | false =>
                rw [hNk] at cs
                with_reducible refine Calls.mono cs ?_
                rintro e w5 ⟨rfl, hg, hs5⟩
                have ho5 := hr.out.opk (r := c) (by have := hr.out.bc; omega) hg
                obtain ⟨p0, p1, p2, lo5⟩ := ho5
                have hk5 := hr.out.kk hg
                have ch := rhas_any (k : Int) (hk5.ints (by have := mem_max N m; omega))
                rw [mem_ints hr.out.o.out, hasI_in' hin.1, Int.toNat_natCast, hNk] at ch
                have cp := rput_at k (by omega) m3 lo5 hk5
                replace hs5 := Lib.hid hs5
                replace hg := Lib.hid hg
                clear cs q0 q1 q2 hb2 hin hNk hk5
                go_wp2_with fail
                with_reducible refine Calls.mono ch ?_
                rintro e w' ⟨rfl, rfl⟩
                go_wp2_with fail
                with_reducible refine Calls.mono cp ?_
                rintro e w6 ⟨v', rfl, hb6, hl6⟩
                have hr6 := Lib.hid (hr.out.seto_put hg.out hs5.out hb6 hl6)
                clear cp ch hr hs5 hg hb6 hl6 p0 p1 p2 lo5
                go_wp2_with fail
                go_meet
                exact ⟨_, _, hr6⟩
            · have cs := setset_any x wc hr.out.o
              rw [decide_eq_false hin, Bool.false_and, setM_out hin] at cs
              with_reducible refine Calls.mono cs ?_
              rintro e w5 ⟨rfl, hg, hs5⟩
              have ho5 := hr.out.opk (r := c) (by have := hr.out.bc; omega) hg
              obtain ⟨p0, p1, p2, lo5⟩ := ho5
              have hr6 := Lib.hid (hr.out.seto hg hs5 hr.out.k)
              clear cs q0 q1 q2 hr hg hs5 hin
              go_wp2_with fail
              go_meet
              exact ⟨_, _, hr6⟩
        case rest =>
          obtain ⟨M2, N2, hr2⟩ := hcut
          clear hr hhad hι q0 q1 q2
          obtain ⟨sp6, cap6, hu6⟩ := hr2.out.llen
          subst hu6
          have q0 := hr2.out.q0
          have q1 := hr2.out.q1
          have chs : Hid (∀ j, Calls Tryd.prog 19 #[.pointer (some ⟨b + 1, 0, none⟩), .int .i64 x] (wc.drewN j) (Ans (.bool (hasI M2 x)) (wc.drewN j))) := fun j => sethas_any x _ (hr2.out.s.drewN j)
          have chl : Hid (∀ j, Calls Tryd.prog 11 #[.slice sp6 (cnt M2 n) cap6, .int .i64 x] (wc.drewN j) (Ans (.bool (hasI M2 x)) (wc.drewN j))) := fun j => by
            have := rhas_any x ((hr2.out.drewN j).l.ints (by have := mem_max M2 n; omega))
            rw [mem_ints hr2.out.s.out] at this
            exact Same.ans this
          have chc : Hid (∀ j, Calls Tryd.prog 20 #[.pointer (some ⟨b + 1, 0, none⟩)] (wc.drewN j) (Ans (.int .i64 (cnt M2 n)) (wc.drewN j))) := fun j => setcount_any _ (hr2.out.s.drewN j)
          go_wp2_with fail
          go_quiet (first | (go_at_call 19; refine quiet_one (chs.out _)) | (go_at_call 11; refine quiet_one (chl.out _)) | (go_at_call 20; refine quiet_one (chc.out _)))
          have hr3 := hr2.out.drewN nq
          clear hr2 chs chl chc q0 q1
          go_wp2_with fail
          go_roundw
          case rel => exact ⟨i + 1, M2, N2, by go_num, by omega, hr3.s, hr3.o, hr3.l, hr3.k, hr3.sz, hr3.bl⟩
          case measure => simp [intOf]; omega
    · obtain ⟨u, rfl⟩ : ∃ u, u = u11 := ⟨_, rfl⟩
      obtain ⟨v, rfl⟩ : ∃ v, v = u12 := ⟨_, rfl⟩
      have hTr := hT.below hb
      have hI1 := hl.ints (by have := mem_max M n; omega)
      have hI2 := hk.ints (by have := mem_max N m; omega)
      clear hl hk
      by_cases e1 : i < L2
      · have e2 : (60 : Int) ≤ i := by omega
        have e3 : (i : Int) < (L2 : Int) := by omega
        clear hi
        go_wp2_with fail
        with_reducible refine Calls.mono (told3_any wr hTr) ?_
        rintro e w3 ⟨rfl, hb3⟩
        have hs3 := hs.below hb3
        have ho3 := ho.below hb3
        have hI3 := hI1.below hb3
        have hJ3 := hI2.below hb3
        have hb4 := below_then hb hb3
        clear hs ho hI1 hI2 hb hb3 hTr
        go_wp2_with fail
        with_reducible refine Calls.mono (setall_any w3 hs3 (hT.below hb4)) ?_
        rintro e w4 ⟨va, rfl, hb5, hown⟩
        have ci := ints_any (ints_of_owns hown) (hI3.below hb5)
        have ho5 := ho3.below hb5
        have hJ5 := hJ3.below hb5
        have hb6 := below_then hb4 hb5
        clear hs3 ho3 hI3 hJ3 hb4 hb5 hown
        go_wp2_with fail
        with_reducible refine Calls.mono (ci) ?_
        rintro e w' ⟨rfl, k1, rfl⟩
        have ho6 := ho5.drewN k1
        have hJ6 := hJ5.below (below_drewN (Below.refl _ _) k1)
        have hb7 := below_drewN hb6 k1
        generalize w4.drewN k1 = w5 at *
        clear ci ho5 hJ5 hb6
        go_wp2_with fail
        with_reducible refine Calls.mono (setall_any w5 ho6 (hT.below hb7)) ?_
        rintro e w6 ⟨vb, rfl, hb8, hown⟩
        have ci := ints_any (ints_of_owns hown) (hJ6.below hb8)
        have hb9 := below_then hb7 hb8
        clear ho6 hJ6 hb7 hb8 hown
        go_wp2_with fail
        with_reducible refine Calls.mono (ci) ?_
        rintro e w' ⟨rfl, k2, rfl⟩
        go_wp2_with fail
        go_ret
        exact ⟨rfl, below_drewN hb9 k2⟩
      · obtain rfl : L2 = i := by omega
        clear hi
        go_wp2_with fail
        with_reducible refine Calls.mono (told3_any wr hTr) ?_
        rintro e w3 ⟨rfl, hb3⟩
        have hs3 := hs.below hb3
        have ho3 := ho.below hb3
        have hI3 := hI1.below hb3
        have hJ3 := hI2.below hb3
        have hb4 := below_then hb hb3
        clear hs ho hI1 hI2 hb hb3 hTr
        go_wp2_with fail
        with_reducible refine Calls.mono (setall_any w3 hs3 (hT.below hb4)) ?_
        rintro e w4 ⟨va, rfl, hb5, hown⟩
        have ci := ints_any (ints_of_owns hown) (hI3.below hb5)
        have ho5 := ho3.below hb5
        have hJ5 := hJ3.below hb5
        have hb6 := below_then hb4 hb5
        clear hs3 ho3 hI3 hJ3 hb4 hb5 hown
        go_wp2_with fail
        with_reducible refine Calls.mono (ci) ?_
        rintro e w' ⟨rfl, k1, rfl⟩
        have ho6 := ho5.drewN k1
        have hJ6 := hJ5.below (below_drewN (Below.refl _ _) k1)
        have hb7 := below_drewN hb6 k1
        generalize w4.drewN k1 = w5 at *
        clear ci ho5 hJ5 hb6
        go_wp2_with fail
        with_reducible refine Calls.mono (setall_any w5 ho6 (hT.below hb7)) ?_
        rintro e w6 ⟨vb, rfl, hb8, hown⟩
        have ci := ints_any (ints_of_owns hown) (hJ6.below hb8)
        have hb9 := below_then hb7 hb8
        clear ho6 hJ6 hb7 hb8 hown
        go_wp2_with fail
        with_reducible refine Calls.mono (ci) ?_
        rintro e w' ⟨rfl, k2, rfl⟩
        go_wp2_with fail
        go_ret
        exact ⟨rfl, below_drewN hb9 k2⟩

set_option maxRecDepth 100000 in
theorem lifted (os : Os) (started : os.Started) (H : Type) (enc : TypeId × Value → H) :
    ReturnsInHanded {} Tryd.checked os 3 .any (fun w args => (Rows.bitsPlaysSpec.pre enc Tryd.prog Tryd.f3 [] false w args ∧ laidMetH Tryd.prog [("math/bits.deBruijn64tab", Rows.laid_math_bits_deBruijn64tab)] w) ∧ sizedMet enc Tryd.prog Tryd.f3 (OpenSpec.ofChange Rows.bitsPlaysSpec) false w args) (Rows.bitsPlaysSpec.post enc Tryd.prog Tryd.f3 false true false false) := by
  refine returnsInHanded_of_change_and (C := Tryd.checked) (X := fun w _ => laidMetH Tryd.prog [("math/bits.deBruijn64tab", Rows.laid_math_bits_deBruijn64tab)] w) (fun _ _ _ hh h => h.of_heap hh) own started (by kernel_rfl) Tryd.func3
    (ChangeSpec.witness_shaped (enc := enc) (C := Tryd.checked) (os := os) (X := fun w _ => laidMetH Tryd.prog [("math/bits.deBruijn64tab", Rows.laid_math_bits_deBruijn64tab)] w) false (World.doorLaid Tryd.prog 400 os) #[.int .i64 0, .int .i64 0, .slice none 0 0] 8 rfl (World.shaped_of_RefB (by kernel_rfl) (by kernel_rfl)) (by kernel_rfl) (by kernel_rfl) (by kernel_rfl) (door_met os _)) ?_
  intro W base args ds gs before hval0 hW _ _ hL _
  have hval : ∀ (j : Nat) t v, Tryd.f3.params[j]? = some t → args[j]? = some v → Value.okWide Tryd.prog W .any base t v := hval0
  have hW' := hW
  obtain ⟨p, q, hA0, hV, rfl, hfz, hnd⟩ := hW
  have hA : DataW.TrodAll enc Tryd.prog W 0 (fun _ => true) true Tryd.f3.params.toList args.toList ds p := hA0
  rw [Tryd.params3] at hA hval
  obtain ⟨v0, vs0, d0, ds0, p0, q0, hargs, rfl, rfl, h0, r0⟩ := trodAll_cons hA
  obtain ⟨v1, vs1, d1, ds1, p1, q1, rfl, rfl, rfl, h1, r1⟩ := trodAll_cons r0
  obtain ⟨v2, vs2, d2, ds2, p2, q2, rfl, rfl, rfl, h2, r2⟩ := trodAll_cons r1
  obtain ⟨rfl, rfl, rfl⟩ := trodAll_nil r2
  obtain rfl : args = #[v0, v1, v2] := by cases args; simp_all
  obtain ⟨rfl, rfl⟩ := trodVars_none hV
  obtain ⟨L2, kf2, xf2, hf2, i2⟩ := ops_arg (hval 2 22 v2 rfl rfl) h2
  obtain ⟨a0, rfl, rfl, rfl, w0⟩ := open_int Tryd.underlying3 (hval 0 3 v0 rfl rfl) h0
  obtain ⟨a1, rfl, rfl, rfl, w1⟩ := open_int Tryd.underlying3 (hval 1 3 v1 rfl rfl) h1
  clear hA0 hval0
  simp only [List.append_nil] at hW'
  have lt2 : ∀ x ∈ p2, x.block < W.heap.size := fun x hx => by have := hW'.lt x (by simp [hx]); simpa using this
  refine (walk a0 a1 v2 L2 kf2 xf2 hf2 W (tab_of_laid hL) i2).mono fun e W' ⟨he, hg⟩ => ?_
  subst he
  exact ⟨_, rfl, post_of_kept (pa := _) (pv := []) hW' (fun _ _ _ => (trodAll_cons_mk (shut_bool Tryd.underlying4 _) trodAll_mk0)) (trodAll_cons_mk (shut_int Tryd.underlying3 w0) (trodAll_cons_mk (shut_int Tryd.underlying3 w1) (trodAll_cons_mk (Below.trod laidOut (by kernel_rfl) (of_decide_eq_true (by kernel_rfl)) h2 hg lt2) trodAll_mk0))) (fun _ _ => rfl) (by simp) hg⟩

theorem over : Rows.bitsPlaysRow.holds Tryd.pinned (OpenSpec.ofChange Rows.bitsPlaysSpec) :=
  OpenClaim.holds_of_wide 3 Tryd.f3 rfl rfl rfl rfl rfl rfl rfl ⟨rfl, rfl, rfl, rfl, rfl⟩ rfl rfl rfl rfl rfl (by kernel_rfl) Tryd.func3 (by kernel_rfl)
    (of_decide_eq_true (by kernel_rfl)) (by unfold Func.isWrapper; first | (rw [if_pos (by decide +kernel)]; kernel_rfl) | (rw [if_neg (by decide +kernel)]; exact ⟨rfl, rfl⟩))
    (fun os started H enc _ => lifted os started H enc)

theorem proved : Rows.BitsPlaysCardSaid :=
  Claim7.holds_tied_plain_at .later [] [.data] true Rows.bitsPlaysCard.stood.harness false
    over (fun _ h => by cases h) (by kernel_rfl) (fun _ h => by cases h) bitsPlays_row_tie rfl ⟨rfl, rfl⟩ (by kernel_rfl) rfl
    (fun f fn hf hfn => by
      obtain rfl : f = 3 := Option.some.inj ((show Tryd.prog.funcNamed "treadmill/treadmilllaw3.BitsPlays" = some 3 by kernel_rfl).symm.trans hf) |>.symm
      obtain rfl : fn = Tryd.f3 := (Option.some.inj (Tryd.func3.symm.trans hfn)).symm
      exact ⟨by kernel_rfl, fun j t ht => by
        rw [Tryd.params3] at ht
        have hm : t ∈ [3, 22] := by simpa using Array.mem_of_getElem? ht
        have hall : ([3, 22].all fun u => !Tryd.prog.wantsStandIn u) = true := by kernel_rfl
        exact (show Tryd.prog.wantsStandIn t = false by simpa using List.all_eq_true.1 hall t hm)⟩)
    (by kernel_rfl)
#print axioms proved
end Go.Proofs.YtoamabmnbldgkaaDoor.bitsPlays
