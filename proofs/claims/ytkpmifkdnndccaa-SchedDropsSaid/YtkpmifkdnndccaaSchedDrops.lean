/- For any two whole numbers the statement SchedDrops answers true and leaves its arguments as they were: a P that gives up leaves all of its own to all, in order, next first. No condition. -/
import Derived.Test.YtkpmifkdnndccaaHome
import Derived.Test.YtkpmifkdnndccaaSchedTold
import Derived.WalkKit
import Derived.ProofKit
import Derived.OpenShut
import Derived.Deep.RegionHeld3
import Derived.Deep.RegionWith
import Derived.Deep.Cut
import Derived.Deep.CutBlock
import Derived.Deep.CutRange
import Derived.Deep.LoopGhost
import Derived.Deep.DeepCutAuto
import Derived.RegionTactic
import Derived.StillTailTactics
namespace Go.Proofs.Ytkpmifkdnndccaa.schedDrops
open Go.ChangeShapes Go.WideShapes Go.ChangeAt Go.WideElems Go.RowKit Go.Lib Fx Ho Sd Rw
set_option linter.unusedVariables false

theorem own : ownKnob Try.prog.godebug = none := by kernel_rfl

/-- n numbers that rise by one, from c on, the first ahead. -/
def upI (c : Int) : Nat → List Int
  | 0 => []
  | n + 1 => c :: upI (c + 1) n
theorem up_app (c : Int) : ∀ n, upI c (n + 1) = upI c n ++ [c + (n : Int)]
  | 0 => by simp [upI]
  | n + 1 => by
    have h := up_app (c + 1) n
    show c :: upI (c + 1) (n + 1) = (c :: upI (c + 1) n) ++ _
    rw [h, List.cons_append, show c + 1 + (n : Int) = c + ((n + 1 : Nat) : Int) by omega]
theorem up_len (c : Int) : ∀ n, (upI c n).length = n
  | 0 => rfl
  | n + 1 => by show (upI (c + 1) n).length + 1 = _; rw [up_len (c + 1) n]
theorem put1 {L : List Int} {nx : Option Int} (g : Int) (h : L.length < 256) : rPut (nx, L) g false = ((nx, L ++ [g]), []) := by
  show rRow nx L g = _
  unfold rRow; rw [if_pos h]
theorem take0 (R : List Rg) (i m : Nat) : takeS R [] i m = (none, R, []) := by unfold takeS; simp
theorem take1 (R : List Rg) (h : R.length = 2) (z : Int) (T : List Int) (i : Nat) : takeS R (z :: T) i 1 = (some z, R, T) := by
  have hq : qN (z :: T) R.length 1 = 1 := by unfold qN; rw [h]; simp <;> omega
  unfold takeS
  rw [hq]; rfl
theorem pick_first (z : Int) (T : List Int) : pickS [rg0, rg0] (z :: T) 1 61 0 = (some z, [rg0, rg0], T) := by
  have e : turnS [rg0, rg0] (z :: T) 1 61 = (some z, [rg0, rg0], T) := by
    unfold turnS
    rw [if_neg (by decide), take1 _ rfl]
  unfold pickS; rw [e]
theorem pick_none : pickS [rg0, rg0] [] 1 61 0 = (none, [rg0, rg0], []) := by
  have e : turnS [rg0, rg0] [] 1 61 = (none, [rg0, rg0], []) := by
    unfold turnS
    rw [if_neg (by decide), take0]
  have e2 : stealR [rg0, rg0] 1 0 = [rg0, rg0] := by unfold stealR; rw [if_pos (by simp)]; rfl
  have e3 : rGet (([rg0, rg0] : List Rg).getD 1 rg0) = (none, rg0) := rfl
  unfold pickS
  simp only [e, e3, take0, e2]
  rfl
theorem where_in {z : Int} {C : List Int} (h : z ∈ C) : whereV [rg0, rg0] C z = .tuple #[.int .i64 (-1), .bool true] := by
  have h3 : z ∉ rAll rg0 := by simp [rAll, Ri.allOf, rg0]
  have e1 : findR [rg0, rg0] z 2 = none := by
    simp only [findR, List.getD_cons_zero, List.getD_cons_succ]
    simp [h3]
  unfold whereV
  rw [show ([rg0, rg0] : List Rg).length = 2 from rfl, e1]
  simp [h]
theorem getN_none (r : Rg) : getN r (rAll r).length = rg0 := by
  have h := getN_all r (rAll r).length
  rw [List.drop_length] at h
  generalize getN r (rAll r).length = s at *
  obtain ⟨nx, L⟩ := s
  cases nx with
  | some y => cases h
  | none => cases L with
    | nil => rfl
    | cons a T => cases h
/-- A session, and a row of the law's own beside it. -/
structure Sv (W0 W : World) (p : Nat) (H : Home) (R : List Rg) (C : List Int) (v : Value) (zs : List Int) : Prop where
  s : Ss W0 W p H R C
  r : Qu.OffRow W v zs
  o : Off (fun k => v.ownBlock = some k) H
  l : Low W0.heap.size (fun k => v.ownBlock = some k)
namespace Sv
variable {W0 W W' W1 W2 : World} {p : Nat} {H H' : Home} {R R' : List Rg} {C C' : List Int} {v v2 : Value} {zs zs2 : List Int}
theorem step (h : Sv W0 W p H R C v zs) (hw : Wrote H W H' W') (hs : Ss W0 W' p H' R' C') : Sv W0 W' p H' R' C' v zs := ⟨hs, h.r.wrote hw (fun k hk e => h.o k hk e), hw.off h.o (fun k hk => h.r.lt hk), h.l⟩
theorem below (h : Sv W0 W p H R C v zs) (hb : Below W.heap.size W W') : Sv W0 W' p H R C v zs := ⟨h.s.below hb, off_below h.r hb, h.o, h.l⟩
theorem app (h : Sv W0 W p H R C v zs) (hb : Below W.heap.size W W1) (hr : Qu.OffRow W2 v2 zs2) (hw : Wrote (fun k => v.ownBlock = some k) W1 (fun k => v2.ownBlock = some k) W2) : Sv W0 W2 p H R C v2 zs2 :=
  ⟨(h.s.below hb).wrote hw (fun k hk e => h.o k e hk) h.l, hr, fun k hk e => (hw.home k hk).elim (fun h2 => h.o k h2 e) (fun h2 => by have := h.s.lt e; have := hb.size; omega), hw.low h.l (Nat.le_trans h.s.out.size hb.size)⟩
theorem fresh {lv : Value} (h : Sv W0 W p H R C v zs) (hb : Below W.heap.size W W1) (hlow : Low W.heap.size (fun k => lv.ownBlock = some k)) (hr : Qu.OffRow W2 v2 zs2) (hw : Wrote (fun k => lv.ownBlock = some k) W1 (fun k => v2.ownBlock = some k) W2) : Sv W0 W2 p H R C v2 zs2 := by
  have hv2 : Low W.heap.size (fun k => v2.ownBlock = some k) := hw.low hlow hb.size
  have hs0 := h.s.out.size
  exact ⟨(h.s.below hb).wrote hw (fun k hk e => by have := h.s.lt hk; have := hlow k e; omega) (fun k hk => by have := hlow k hk; omega), hr, fun k hk e => by have := h.s.lt e; have := hv2 k hk; omega, fun k hk => by have := hv2 k hk; omega⟩
theorem ints (h : Sv W0 W p H R C v zs) : Ints W (fun _ => True) v zs := h.r.ints.wider (fun _ _ _ => trivial)
end Sv
theorem off_lit (w : World) (x : Int) : Qu.OffRow (w.alloc (.cells #[.int .i64 x] 3)) (.slice (some ⟨w.heap.size, 0, none⟩) 1 1) [x] := by
  have h := World.ownsRow_lit (base := w.heap.size) (e := 3) (size := 1) w #[.int .i64 x] 1 (Nat.le_refl _) (by unfold maxLen; omega) rfl
  exact off_of_owns (zs := [x]) h
set_option maxRecDepth 100000 in
set_option maxHeartbeats 4000000 in
theorem walk (a0 : Int) (a1 : Int) (w : World) (w0 : (Lit.int .i64 a0).wf = true) (w1 : (Lit.int .i64 a1).wf = true) :
    Calls Try.prog 13 #[.int .i64 a0, .int .i64 a1] w fun e w' => e = .returned (.bool true) ∧ Below w.heap.size w w' := by
  obtain ⟨Z, hZ⟩ : ∃ Z : Int, IntKind.u64.wrap a0 = Z := ⟨_, rfl⟩
  obtain ⟨Y, hY⟩ : ∃ Y : Int, IntKind.u64.wrap a1 = Y := ⟨_, rfl⟩
  have z1 : 0 ≤ Z := by rw [← hZ, IntKind.wrap_u64]; omega
  have y1 : 0 ≤ Y := by rw [← hY, IntKind.wrap_u64]; omega
  obtain ⟨k, hk⟩ : ∃ k : Nat, Z % 101 = (k : Int) := ⟨(Z % 101).toNat, by omega⟩
  obtain ⟨x, hx⟩ : ∃ x : Int, 1000 + Y % 100 = x := ⟨_, rfl⟩
  have k1 : k ≤ 100 := by omega
  have x0 : 1000 ≤ x := by omega
  have x1 : x ≤ 1099 := by omega
  have cn := new_any 2 (by omega) (by omega) w
  have hYx := Lib.hid (And.intro hY hx)
  clear hY hx
  go_enter Try.func13, Try.ntmps13
  go_wp2_with fail
  with_reducible refine Calls.mono (cn) ?_
  rintro e w1 ⟨p, H, rfl, hs⟩
  have hs : Hid (Sv w w1 p H [(none, upI 0 0), rg0] [] (.slice none 0 0) (upI 0 0)) := Lib.hid ⟨hs, Qu.offrow_nil _, (fun k hk => by cases hk), (fun k hk => by cases hk)⟩
  clear cn
  go_wp2_with fail
  clear hZ z1 hk
  go_loopw [8, 9] (fun v x wr => ∃ (i : Nat) (H : Home) (s : Option Addr) (c : Nat), v = .slice s i c ∧ x = .int .i64 i ∧ i ≤ k ∧ Hid (Sv w wr p H [(none, upI 0 i), rg0] [] (.slice s i c) (upI 0 i))) (fun _ x _ => (k - (RowKit.intOf x).toNat))
  case atStart => exact ⟨0, H, none, 0, rfl, rfl, by omega, hs⟩
  case round =>
    clear hs
    obtain ⟨i, H, s, c, rfl, rfl, i1, hs⟩ := hrel
    by_cases hi : i < k
    · have i2 : (i : Int) < (k : Int) := by omega
      have cy := ready_in hs.out.s (i := 0) (by simp) (i : Int) false (by simp)
      replace cy : Calls Try.prog 35 #[.pointer (some ⟨p, 0, none⟩), .int .i64 0, .int .i64 i, .bool false] wr (Step (.int .i64 0) w wr p H [(none, upI 0 (i + 1)), rg0] []) := by
        have e : rPut (([(none, upI 0 i), rg0] : List Rg).getD 0 rg0) (i : Int) false = ((none, upI 0 i ++ [(i : Int)]), []) := put1 _ (by rw [up_len]; omega)
        rw [e] at cy
        rw [show upI 0 (i + 1) = upI 0 i ++ [(i : Int)] by rw [up_app, Int.zero_add]]
        exact cy
      go_wp2_with fail
      with_reducible refine Calls.mono cy ?_
      rintro e w2 ⟨rfl, H2, hw2, hs2⟩
      have hs := Lib.hid (hs.out.step hw2 hs2)
      clear cy hw2 hs2
      have hb1 := below_alloc (Below.refl _ w2) (.cells #[.int .i64 i] 3)
      have hrow := Lib.hid (hs.out.below hb1).r
      have hsrc := Lib.hid (src_one w2 (i : Int))
      have hbd : (upI 0 i).length + [(i : Int)].length ≤ 1000000 := by rw [up_len]; simp; omega
      have hnx : Hid (∀ (w3 : World) (v3 : Value), Qu.OffRow w3 v3 (upI 0 i ++ [(i : Int)]) → Wrote (fun k => (Value.slice s i c).ownBlock = some k) (w2.alloc (.cells #[.int .i64 i] 3)) (fun k => v3.ownBlock = some k) w3 → (∃ s3 c3, v3 = .slice s3 (i + 1) c3) ∧ Hid (Sv w w3 p H2 [(none, upI 0 (i + 1)), rg0] [] v3 (upI 0 (i + 1)))) := Lib.hid fun w3 v3 q1 q2 => by
        rw [show upI 0 i ++ [(i : Int)] = upI 0 (i + 1) by rw [up_app, Int.zero_add]] at q1
        exact ⟨off_slice q1 (up_len _ _), Lib.hid (hs.out.app hb1 q1 q2)⟩
      clear hs hb1
      go_wp2_with (at_builtin; refine Qu.wpList_append_off rfl (.tmp 41) (.tmp 43) rfl rfl hrow.out rfl rfl hsrc.out hbd ?_; intro v3 w3 q1 q2; have hk := hnx.out w3 v3 q1 q2; obtain ⟨⟨s3, c3, rfl⟩, hs⟩ := hk; clear q1 q2 hnx hrow hsrc)
      go_roundw
      case rel => exact ⟨i + 1, H2, s3, c3, rfl, by go_num, by omega, hs⟩
      case measure => simp [RowKit.intOf]; omega
    · obtain rfl : i = k := by omega
      have i2 : ¬ ((i : Int) < (i : Int)) := by omega
      by_cases hi0 : i = 0
      · have ip : ¬ (0 : Int) < (i : Int) := by omega
        have hu : ∃ (r : Rg) (zs : List Int), Hid (rAll r = zs) ∧ Hid (zs.length = i) ∧ Hid (Sv w wr p H [r, rg0] [] (.slice s i c) zs) := ⟨(none, upI 0 i), upI 0 i, Lib.hid rfl, Lib.hid (up_len _ _), hs⟩
        clear hs
        obtain ⟨r, zs, hr, hzl, hs⟩ := hu
        clear hYx y1 x0 x1 hi0
        go_wp2_with fail
        clear ip i2 hi i1
        generalize hnn : i = n at *
        have hn : n ≤ 101 := by omega
        have c0 := local_in hs.out.s (i := 0) (by simp)
        rw [show rAll (([r, rg0] : List Rg).getD 0 rg0) = zs from hr.out] at c0
        clear hnn
        go_wp2_with fail
        with_reducible refine Calls.mono c0 ?_
        rintro e wA ⟨v', rfl, hb, hv⟩
        have hs := hs.out.below hb
        have ci := ints_any hv hs.ints
        obtain ⟨sq, cq, rfl, _⟩ := id hv
        rw [hzl.out] at ci ⊢
        replace hs := Lib.hid hs
        clear c0 hb hv
        go_wp2_with fail
        with_reducible refine Calls.mono ci ?_
        rintro e wB ⟨rfl, m, rfl⟩
        have hs := hs.out.below (below_drewN (Below.refl _ _) m)
        generalize wA.drewN m = wB at *
        clear ci
        have cd := drop_in hs.s (i := 0) (by simp) (by simp)
        rw [show rAll (([r, rg0] : List Rg).getD 0 rg0) = zs from hr.out, show getN (([r, rg0] : List Rg).getD 0 rg0) zs.length = rg0 by rw [← hr.out]; exact getN_none r, hzl.out] at cd
        replace cd : Calls Try.prog 46 #[.pointer (some ⟨p, 0, none⟩), .int .i64 0] wB (Step (.int .i64 n) w wB p _ [rg0, rg0] zs) := cd
        replace hs := Lib.hid hs
        clear hr
        go_wp2_with fail
        with_reducible refine Calls.mono cd ?_
        rintro e wC ⟨rfl, HC, hw2, hs2⟩
        have hs := hs.out.step hw2 hs2
        clear cd hw2 hs2
        have c0 := local_in hs.s (i := 0) (by simp)
        replace c0 : Calls Try.prog 37 #[.pointer (some ⟨p, 0, none⟩), .int .i64 0] wC fun e W' => ∃ sp cap, e = .returned (.slice sp 0 cap) ∧ Hid (Below wC.heap.size wC W') := c0.mono fun e W' ⟨v', a, b, sp, cap, c, _⟩ => ⟨sp, cap, by rw [a, c]; rfl, Lib.hid b⟩
        replace hs := Lib.hid hs
        go_wp2_with fail
        with_reducible refine Calls.mono c0 ?_
        rintro e wD ⟨sp9, cap9, rfl, hb⟩
        have hs := hs.out.below hb.out
        clear c0 hb
        have cm := common_any hs.s (by rw [hzl.out]; omega)
        replace hs := Lib.hid hs
        go_wp2_with fail
        with_reducible refine Calls.mono cm ?_
        rintro e wE ⟨v', rfl, hb, hv⟩
        have hs := hs.out.below hb
        have ci := ints_any hv hs.ints
        obtain ⟨sq2, cq2, rfl, _⟩ := id hv
        rw [hzl.out] at ci ⊢
        replace hs := Lib.hid hs
        clear cm hb hv
        go_wp2_with fail
        with_reducible refine Calls.mono ci ?_
        rintro e wF ⟨rfl, m, rfl⟩
        have hs := hs.out.below (below_drewN (Below.refl _ _) m)
        generalize wE.drewN m = wF at *
        clear ci
        have cl := len_any hs.s (by rw [hzl.out]; omega) (by simp)
        rw [show zs.length + sumR [rg0, rg0] ([rg0, rg0] : List Rg).length = n by rw [hzl.out]; rfl] at cl
        replace hs := Lib.hid hs
        go_wp2_with fail
        with_reducible refine Calls.mono cl ?_
        rintro e wG ⟨rfl, m, rfl⟩
        have hs := Lib.hid (hs.out.below (below_drewN (Below.refl _ _) m))
        generalize wF.drewN m = wG at *
        clear cl
        go_wp2_with fail
        obtain ⟨W1, rfl⟩ : ∃ W1 : World, wr = W1 := ⟨_, rfl⟩
        go_loopw [11] (fun x wq => ∃ q : Nat, x = .int .i64 q ∧ q ≤ n ∧ Hid (Sv w wq p HC [rg0, rg0] zs (.slice s n c) zs)) (fun x _ => (n - (RowKit.intOf x).toNat))
        case atStart => exact ⟨0, rfl, by omega, hs⟩
        case round =>
          clear hs
          obtain ⟨q, rfl, q1, hs⟩ := hrel
          by_cases hq : q < n
          · have q2 : (q : Int) < (n : Int) := by omega
            obtain ⟨ao, b, off, cap, e, g1, g2, g3, g4⟩ := hs.out.r.cell
            rw [hzl.out] at e g1 g4
            cases e
            obtain ⟨rfl, _⟩ := g3 (by omega)
            have g5 := g4 q hq
            have hin : zs.getD q 0 ∈ zs := by
              rw [List.getD_eq_getElem?_getD, List.getElem?_eq_getElem (by rw [hzl.out]; exact hq)]; exact List.getElem_mem _
            have ch := where_any hs.out.s (zs.getD q 0) (by rw [hzl.out]; omega)
            rw [where_in hin] at ch
            unfold maxLen at g2
            clear g3 g4 hin
            generalize zs.getD q 0 = z at *
            go_wp2_with fail
            with_reducible refine Calls.mono ch ?_
            rintro e wH ⟨rfl, hb⟩
            have hs := Lib.hid (hs.out.below hb)
            clear ch hb g5
            go_wp2_with fail
            go_roundw
            case rel => exact ⟨q + 1, by go_num, by omega, hs⟩
            case measure => simp [RowKit.intOf]; omega
          · obtain rfl : q = n := by omega
            have q2 : ¬ ((q : Int) < (q : Int)) := by omega
            go_wp2_with fail
            have hs0 : Hid (Sv w wr p HC [rg0, rg0] (zs.drop 0) (.slice s q c) zs) := hs
            obtain ⟨W2, rfl⟩ : ∃ W2 : World, W2 = wr := ⟨_, rfl⟩
            go_loopw [14] (fun x wq => ∃ (j : Nat) (H : Home), x = .int .i64 j ∧ j ≤ q ∧ Hid (Sv w wq p H [rg0, rg0] (zs.drop j) (.slice s q c) zs)) (fun x _ => (q - (RowKit.intOf x).toNat))
            case atStart => exact ⟨0, HC, rfl, by omega, hs0⟩
            case round =>
              clear hs hs0
              obtain ⟨j, H, rfl, j1, hs⟩ := hrel
              by_cases hj : j < q
              · have j2 : (j : Int) < (q : Int) := by omega
                have hd : zs.drop j = zs.getD j 0 :: zs.drop (j + 1) := by
                  rw [List.drop_eq_getElem_cons (by rw [hzl.out]; exact hj), List.getD_eq_getElem?_getD, List.getElem?_eq_getElem (by rw [hzl.out]; exact hj)]; rfl
                have cp := pick_in hs.out.s (i := 1) (by simp) 61 0 (by simp) (by rw [List.length_drop, hzl.out]; omega)
                rw [hd, pick_first] at cp
                replace cp : Calls Try.prog 36 #[.pointer (some ⟨p, 0, none⟩), .int .i64 1, .int .i64 61, .int .i64 0] wr (Step (.tuple #[.int .i64 (zs.getD j 0), .bool true]) w wr p H [rg0, rg0] (zs.drop (j + 1))) := cp
                have hcell : Hid (∀ W H C, Sv w W p H [rg0, rg0] C (.slice s q c) zs → ∃ b off, s = some ⟨b, off, none⟩ ∧ W.cell? ⟨b, off + j, none⟩ = some (.int .i64 (zs.getD j 0))) := Lib.hid fun W H C h => by
                  obtain ⟨ao, b, off, cap, e, g1, g2, g3, g4⟩ := h.r.cell
                  rw [hzl.out] at e g1 g4
                  cases e
                  obtain ⟨rfl, _⟩ := g3 (by omega)
                  exact ⟨b, off, rfl, g4 j hj⟩
                clear hd
                generalize zs.getD j 0 = z at *
                go_wp2_with fail
                with_reducible refine Calls.mono cp ?_
                rintro e wH ⟨rfl, HH, hw2, hs2⟩
                have hs := hs.out.step hw2 hs2
                obtain ⟨b, off, e, g5⟩ := hcell.out _ _ _ hs
                cases e
                replace hs := Lib.hid hs
                clear cp hw2 hs2 hcell
                go_wp2_with fail
                go_roundw
                case rel => exact ⟨j + 1, HH, by go_num, by omega, hs⟩
                case measure => simp [RowKit.intOf]; omega
              · obtain rfl : j = q := by omega
                have j2 : ¬ ((j : Int) < (j : Int)) := by omega
                have cp := pick_in hs.out.s (i := 1) (by simp) 61 0 (by simp) (by rw [List.length_drop, hzl.out]; omega)
                rw [show zs.drop j = [] by rw [← hzl.out]; exact List.drop_length, pick_none] at cp
                replace cp : Calls Try.prog 36 #[.pointer (some ⟨p, 0, none⟩), .int .i64 1, .int .i64 61, .int .i64 0] wr (Step (.tuple #[.int .i64 0, .bool false]) w wr p H [rg0, rg0] []) := cp
                clear hs
                go_wp2_with fail
                with_reducible refine Calls.mono cp ?_
                rintro e wH ⟨rfl, HH, -, hs⟩
                have ct := told_any wH
                replace hs := Lib.hid hs
                clear cp
                go_wp2_with fail
                with_reducible refine Calls.mono ct ?_
                rintro e wI ⟨rfl, hb⟩
                have hs := hs.out.below hb
                clear ct hb
                have cd := drop_in hs (i := 1) (by simp) (by simp)
                replace cd : Calls Try.prog 46 #[.pointer (some ⟨p, 0, none⟩), .int .i64 1] wI (Step (.int .i64 0) w wI p HH [rg0, rg0] []) := cd
                clear hs
                go_wp2_with fail
                with_reducible refine Calls.mono cd ?_
                rintro e wJ ⟨rfl, HJ, -, hs⟩
                have cd := drop_out hs 9 (by simp)
                have hb := hs.out
                clear hs
                go_wp2_with fail
                with_reducible refine Calls.mono cd ?_
                rintro e wK ⟨rfl, m, rfl⟩
                have hb := below_drewN hb m
                clear cd
                go_wp2_with fail
                go_ret
                exact ⟨rfl, hb⟩
      · have ip : (0 : Int) < (i : Int) := by omega
        have cy := ready_in hs.out.s (i := 0) (by simp) x true (by simp)
        replace cy : Calls Try.prog 35 #[.pointer (some ⟨p, 0, none⟩), .int .i64 0, .int .i64 x, .bool true] wr (Step (.int .i64 0) w wr p H [(some x, upI 0 i), rg0] []) := cy
        obtain ⟨hY, hx⟩ := hYx.out
        go_wp2_with fail
        clear hY hx hYx
        with_reducible refine Calls.mono cy ?_
        rintro e w2 ⟨rfl, H2, hw2, hs2⟩
        have hs := Lib.hid (hs.out.step hw2 hs2)
        clear cy hw2 hs2
        have hb1 := below_alloc (Below.refl _ w2) (.cells #[.int .i64 x] 3)
        have hrow := Lib.hid (off_lit w2 x)
        have hsrc := Lib.hid (Qu.src_of_ints (hs.out.below hb1).r.ints)
        have hbd : [x].length + (upI 0 i).length ≤ 1000000 := by rw [up_len]; simp; omega
        have hnx : Hid (∀ (w3 : World) (v3 : Value), Qu.OffRow w3 v3 ([x] ++ upI 0 i) → Wrote (fun k => (Value.slice (some ⟨w2.heap.size, 0, none⟩) 1 1).ownBlock = some k) (w2.alloc (.cells #[.int .i64 x] 3)) (fun k => v3.ownBlock = some k) w3 → (∃ s3 c3, v3 = .slice s3 (i + 1) c3) ∧ Hid (Sv w w3 p H2 [(some x, upI 0 i), rg0] [] v3 (x :: upI 0 i))) := Lib.hid fun w3 v3 q1 q2 =>
          ⟨off_slice q1 (by simp [up_len]), Lib.hid (hs.out.fresh hb1 (fun k hk => by obtain rfl : w2.heap.size = k := Option.some.inj hk; exact Nat.le_refl _) q1 q2)⟩
        have hul := up_len 0 i
        replace hul := Lib.hid hul
        have hsrc2 : Hid (Src Try.prog 1 22 (.slice s i c) (upI 0 i).length (cells (upI 0 i)) (w2.alloc (.cells #[.int .i64 x] 3))) := hsrc
        clear hs hb1 hsrc
        go_wp2_with (at_builtin; refine Qu.wpList_append_off rfl (.tmp 56) (.tmp 57) rfl rfl hrow.out rfl rfl hsrc2.out hbd ?_; intro v3 w3 q1 q2; have hk := hnx.out w3 v3 q1 q2; obtain ⟨⟨s3, c3, rfl⟩, hs⟩ := hk; clear q1 q2 hnx hrow hsrc2)
        have hu : ∃ (r : Rg) (zs : List Int), Hid (rAll r = zs) ∧ Hid (zs.length = i + 1) ∧ Hid (Sv w w3 p H2 [r, rg0] [] (.slice s3 (i + 1) c3) zs) := ⟨(some x, upI 0 i), x :: upI 0 i, Lib.hid rfl, Lib.hid (by simp [hul.out]), hs⟩
        clear hul hs
        obtain ⟨r, zs, hr, hzl, hs⟩ := hu
        generalize hnn : i + 1 = n at *
        have hn : n ≤ 101 := by omega
        have c0 := local_in hs.out.s (i := 0) (by simp)
        rw [show rAll (([r, rg0] : List Rg).getD 0 rg0) = zs from hr.out] at c0
        clear hnn
        go_wp2_with fail
        with_reducible refine Calls.mono c0 ?_
        rintro e wA ⟨v', rfl, hb, hv⟩
        have hs := hs.out.below hb
        have ci := ints_any hv hs.ints
        obtain ⟨sq, cq, rfl, _⟩ := id hv
        rw [hzl.out] at ci ⊢
        replace hs := Lib.hid hs
        clear c0 hb hv
        go_wp2_with fail
        with_reducible refine Calls.mono ci ?_
        rintro e wB ⟨rfl, m, rfl⟩
        have hs := hs.out.below (below_drewN (Below.refl _ _) m)
        generalize wA.drewN m = wB at *
        clear ci
        have cd := drop_in hs.s (i := 0) (by simp) (by simp)
        rw [show rAll (([r, rg0] : List Rg).getD 0 rg0) = zs from hr.out, show getN (([r, rg0] : List Rg).getD 0 rg0) zs.length = rg0 by rw [← hr.out]; exact getN_none r, hzl.out] at cd
        replace cd : Calls Try.prog 46 #[.pointer (some ⟨p, 0, none⟩), .int .i64 0] wB (Step (.int .i64 n) w wB p _ [rg0, rg0] zs) := cd
        replace hs := Lib.hid hs
        clear hr
        go_wp2_with fail
        with_reducible refine Calls.mono cd ?_
        rintro e wC ⟨rfl, HC, hw2, hs2⟩
        have hs := hs.out.step hw2 hs2
        clear cd hw2 hs2
        have c0 := local_in hs.s (i := 0) (by simp)
        replace c0 : Calls Try.prog 37 #[.pointer (some ⟨p, 0, none⟩), .int .i64 0] wC fun e W' => ∃ sp cap, e = .returned (.slice sp 0 cap) ∧ Hid (Below wC.heap.size wC W') := c0.mono fun e W' ⟨v', a, b, sp, cap, c, _⟩ => ⟨sp, cap, by rw [a, c]; rfl, Lib.hid b⟩
        replace hs := Lib.hid hs
        go_wp2_with fail
        with_reducible refine Calls.mono c0 ?_
        rintro e wD ⟨sp9, cap9, rfl, hb⟩
        have hs := hs.out.below hb.out
        clear c0 hb
        have cm := common_any hs.s (by rw [hzl.out]; omega)
        replace hs := Lib.hid hs
        go_wp2_with fail
        with_reducible refine Calls.mono cm ?_
        rintro e wE ⟨v', rfl, hb, hv⟩
        have hs := hs.out.below hb
        have ci := ints_any hv hs.ints
        obtain ⟨sq2, cq2, rfl, _⟩ := id hv
        rw [hzl.out] at ci ⊢
        replace hs := Lib.hid hs
        clear cm hb hv
        go_wp2_with fail
        with_reducible refine Calls.mono ci ?_
        rintro e wF ⟨rfl, m, rfl⟩
        have hs := hs.out.below (below_drewN (Below.refl _ _) m)
        generalize wE.drewN m = wF at *
        clear ci
        have cl := len_any hs.s (by rw [hzl.out]; omega) (by simp)
        rw [show zs.length + sumR [rg0, rg0] ([rg0, rg0] : List Rg).length = n by rw [hzl.out]; rfl] at cl
        replace hs := Lib.hid hs
        go_wp2_with fail
        with_reducible refine Calls.mono cl ?_
        rintro e wG ⟨rfl, m, rfl⟩
        have hs := Lib.hid (hs.out.below (below_drewN (Below.refl _ _) m))
        generalize wF.drewN m = wG at *
        clear cl
        go_wp2_with fail
        obtain ⟨W1, rfl⟩ : ∃ W1 : World, w3 = W1 := ⟨_, rfl⟩
        go_loopw [11] (fun x wq => ∃ q : Nat, x = .int .i64 q ∧ q ≤ n ∧ Hid (Sv w wq p HC [rg0, rg0] zs (.slice s3 n c3) zs)) (fun x _ => (n - (RowKit.intOf x).toNat))
        case atStart => exact ⟨0, rfl, by omega, hs⟩
        case round =>
          clear hs
          obtain ⟨q, rfl, q1, hs⟩ := hrel
          by_cases hq : q < n
          · have q2 : (q : Int) < (n : Int) := by omega
            obtain ⟨ao, b, off, cap, e, g1, g2, g3, g4⟩ := hs.out.r.cell
            rw [hzl.out] at e g1 g4
            cases e
            obtain ⟨rfl, _⟩ := g3 (by omega)
            have g5 := g4 q hq
            have hin : zs.getD q 0 ∈ zs := by
              rw [List.getD_eq_getElem?_getD, List.getElem?_eq_getElem (by rw [hzl.out]; exact hq)]; exact List.getElem_mem _
            have ch := where_any hs.out.s (zs.getD q 0) (by rw [hzl.out]; omega)
            rw [where_in hin] at ch
            unfold maxLen at g2
            clear g3 g4 hin
            generalize zs.getD q 0 = z at *
            go_wp2_with fail
            with_reducible refine Calls.mono ch ?_
            rintro e wH ⟨rfl, hb⟩
            have hs := Lib.hid (hs.out.below hb)
            clear ch hb g5
            go_wp2_with fail
            go_roundw
            case rel => exact ⟨q + 1, by go_num, by omega, hs⟩
            case measure => simp [RowKit.intOf]; omega
          · obtain rfl : q = n := by omega
            have q2 : ¬ ((q : Int) < (q : Int)) := by omega
            go_wp2_with fail
            have hs0 : Hid (Sv w wr p HC [rg0, rg0] (zs.drop 0) (.slice s3 q c3) zs) := hs
            obtain ⟨W2, rfl⟩ : ∃ W2 : World, W2 = wr := ⟨_, rfl⟩
            go_loopw [14] (fun x wq => ∃ (j : Nat) (H : Home), x = .int .i64 j ∧ j ≤ q ∧ Hid (Sv w wq p H [rg0, rg0] (zs.drop j) (.slice s3 q c3) zs)) (fun x _ => (q - (RowKit.intOf x).toNat))
            case atStart => exact ⟨0, HC, rfl, by omega, hs0⟩
            case round =>
              clear hs hs0
              obtain ⟨j, H, rfl, j1, hs⟩ := hrel
              by_cases hj : j < q
              · have j2 : (j : Int) < (q : Int) := by omega
                have hd : zs.drop j = zs.getD j 0 :: zs.drop (j + 1) := by
                  rw [List.drop_eq_getElem_cons (by rw [hzl.out]; exact hj), List.getD_eq_getElem?_getD, List.getElem?_eq_getElem (by rw [hzl.out]; exact hj)]; rfl
                have cp := pick_in hs.out.s (i := 1) (by simp) 61 0 (by simp) (by rw [List.length_drop, hzl.out]; omega)
                rw [hd, pick_first] at cp
                replace cp : Calls Try.prog 36 #[.pointer (some ⟨p, 0, none⟩), .int .i64 1, .int .i64 61, .int .i64 0] wr (Step (.tuple #[.int .i64 (zs.getD j 0), .bool true]) w wr p H [rg0, rg0] (zs.drop (j + 1))) := cp
                have hcell : Hid (∀ W H C, Sv w W p H [rg0, rg0] C (.slice s3 q c3) zs → ∃ b off, s3 = some ⟨b, off, none⟩ ∧ W.cell? ⟨b, off + j, none⟩ = some (.int .i64 (zs.getD j 0))) := Lib.hid fun W H C h => by
                  obtain ⟨ao, b, off, cap, e, g1, g2, g3, g4⟩ := h.r.cell
                  rw [hzl.out] at e g1 g4
                  cases e
                  obtain ⟨rfl, _⟩ := g3 (by omega)
                  exact ⟨b, off, rfl, g4 j hj⟩
                clear hd
                generalize zs.getD j 0 = z at *
                go_wp2_with fail
                with_reducible refine Calls.mono cp ?_
                rintro e wH ⟨rfl, HH, hw2, hs2⟩
                have hs := hs.out.step hw2 hs2
                obtain ⟨b, off, e, g5⟩ := hcell.out _ _ _ hs
                cases e
                replace hs := Lib.hid hs
                clear cp hw2 hs2 hcell
                go_wp2_with fail
                go_roundw
                case rel => exact ⟨j + 1, HH, by go_num, by omega, hs⟩
                case measure => simp [RowKit.intOf]; omega
              · obtain rfl : j = q := by omega
                have j2 : ¬ ((j : Int) < (j : Int)) := by omega
                have cp := pick_in hs.out.s (i := 1) (by simp) 61 0 (by simp) (by rw [List.length_drop, hzl.out]; omega)
                rw [show zs.drop j = [] by rw [← hzl.out]; exact List.drop_length, pick_none] at cp
                replace cp : Calls Try.prog 36 #[.pointer (some ⟨p, 0, none⟩), .int .i64 1, .int .i64 61, .int .i64 0] wr (Step (.tuple #[.int .i64 0, .bool false]) w wr p H [rg0, rg0] []) := cp
                clear hs
                go_wp2_with fail
                with_reducible refine Calls.mono cp ?_
                rintro e wH ⟨rfl, HH, -, hs⟩
                have ct := told_any wH
                replace hs := Lib.hid hs
                clear cp
                go_wp2_with fail
                with_reducible refine Calls.mono ct ?_
                rintro e wI ⟨rfl, hb⟩
                have hs := hs.out.below hb
                clear ct hb
                have cd := drop_in hs (i := 1) (by simp) (by simp)
                replace cd : Calls Try.prog 46 #[.pointer (some ⟨p, 0, none⟩), .int .i64 1] wI (Step (.int .i64 0) w wI p HH [rg0, rg0] []) := cd
                clear hs
                go_wp2_with fail
                with_reducible refine Calls.mono cd ?_
                rintro e wJ ⟨rfl, HJ, -, hs⟩
                have cd := drop_out hs 9 (by simp)
                have hb := hs.out
                clear hs
                go_wp2_with fail
                with_reducible refine Calls.mono cd ?_
                rintro e wK ⟨rfl, m, rfl⟩
                have hb := below_drewN hb m
                clear cd
                go_wp2_with fail
                go_ret
                exact ⟨rfl, hb⟩

set_option maxRecDepth 100000 in
theorem lifted (os : Os) (started : os.Started) (H : Type) (enc : TypeId × Value → H) :
    ReturnsInHanded {} Try.checked os 13 .any (Rows.schedDropsSpec.pre6 enc Try.prog Try.f13 Rows.schedDropsRow.domain false) (Rows.schedDropsSpec.post enc Try.prog Try.f13 false true false false) := by
  refine returnsInHanded_of_change (C := Try.checked) own started (by kernel_rfl) Try.func13
    (ChangeSpec.witness6 (enc := enc) (C := Try.checked) false ⟨#[], #[.int .i64 0, .int .i64 0], []⟩ 8 (by kernel_rfl) (by kernel_rfl) (by kernel_rfl) (by kernel_rfl)) ?_
  intro W base args ds gs before hval0 hW hcnd _
  have hval : ∀ (j : Nat) t v, Try.f13.params[j]? = some t → args[j]? = some v → Value.okWide Try.prog W .any base t v := hval0
  have hW' := hW
  obtain ⟨p, q, hA0, hV, rfl, hfz, hnd⟩ := hW
  have hA : DataW.TrodAll enc Try.prog W 0 (fun _ => true) true Try.f13.params.toList args.toList ds p := hA0
  rw [Try.params13] at hA hval
  obtain ⟨v0, vs0, d0, ds0, p0, q0, hargs, rfl, rfl, h0, r0⟩ := trodAll_cons hA
  obtain ⟨v1, vs1, d1, ds1, p1, q1, rfl, rfl, rfl, h1, r1⟩ := trodAll_cons r0
  obtain ⟨rfl, rfl, rfl⟩ := trodAll_nil r1
  obtain rfl : args = #[v0, v1] := by cases args; simp_all
  obtain ⟨rfl, rfl⟩ := trodVars_none hV
  obtain ⟨a0, rfl, rfl, rfl, w0⟩ := open_int Try.underlying3 (hval 0 3 v0 rfl rfl) h0
  obtain ⟨a1, rfl, rfl, rfl, w1⟩ := open_int Try.underlying3 (hval 1 3 v1 rfl rfl) h1
  clear hA0 hval0
  simp only [List.append_nil] at hW'
  refine (walk a0 a1 W w0 w1).mono fun e W' ⟨he, hg⟩ => ?_
  subst he
  exact ⟨_, rfl, post_of_kept (pa := _) (pv := []) hW' (fun _ _ _ => (trodAll_cons_mk (shut_bool Try.underlying4 _) trodAll_mk0)) (trodAll_cons_mk (shut_int Try.underlying3 w0) (trodAll_cons_mk (shut_int Try.underlying3 w1) trodAll_mk0)) (fun _ _ => rfl) (by simp) hg⟩

theorem over : Rows.schedDropsRow.holds Try.pinned (OpenSpec.ofChange Rows.schedDropsSpec) :=
  OpenClaim.holds_of_wide 13 Try.f13 rfl rfl rfl rfl rfl rfl rfl ⟨rfl, rfl, rfl, rfl, rfl⟩ rfl rfl rfl rfl rfl (by kernel_rfl) Try.func13 (by kernel_rfl)
    (of_decide_eq_true (by kernel_rfl)) (by unfold Func.isWrapper; first | (rw [if_pos (by decide +kernel)]; kernel_rfl) | (rw [if_neg (by decide +kernel)]; exact ⟨rfl, rfl⟩))
    (fun os started H enc _ => lifted os started H enc)

theorem proved : Rows.SchedDropsSaid :=
  over
#print axioms proved
end Go.Proofs.Ytkpmifkdnndccaa.schedDrops
