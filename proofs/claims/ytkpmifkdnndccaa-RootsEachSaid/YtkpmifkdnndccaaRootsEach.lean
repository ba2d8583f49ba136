/- For any two whole numbers the statement RootsEach answers true and leaves its arguments as they were: each global is in one job, each goroutine's stack in one, eight globals at a time. No condition. -/
import Derived.Test.YtkpmifkdnndccaaHome
import Derived.Test.YtkpmifkdnndccaaRootsTold
import Derived.WalkKit
import Derived.ProofKit
import Derived.OpenShut
import Derived.Deep.RegionHeld3
import Derived.Deep.RegionWith
import Derived.Deep.Cut
import Derived.Deep.CutBlock
import Derived.Deep.CutRange
import Derived.Deep.DeepCutAuto
import Derived.RegionTactic
import Derived.StillTailTactics
namespace Go.Proofs.Ytkpmifkdnndccaa.rootsEach
open Go.ChangeShapes Go.WideShapes Go.ChangeAt Go.WideElems Go.RowKit Go.Lib Fx Ho Ro Rw Qu
set_option linter.unusedVariables false

theorem own : ownKnob Try.prog.godebug = none := by kernel_rfl

/-- n numbers that rise by one, from c on, the first ahead. -/
def upI (c : Int) : Nat → List Int
  | 0 => []
  | n + 1 => c :: upI (c + 1) n
theorem up_app (c : Int) : ∀ n, upI c (n + 1) = upI c n ++ [c + (n : Int)]
  | 0 => by simp [upI]
  | n + 1 => by
    have h := up_app (c + 1) n
    show c :: upI (c + 1) (n + 1) = (c :: upI (c + 1) n) ++ _
    rw [h, List.cons_append, show c + 1 + (n : Int) = c + ((n + 1 : Nat) : Int) by omega]
theorem seq_up (c : Int) : ∀ n, seqI c n = upI c n
  | 0 => rfl
  | n + 1 => by rw [up_app, ← seq_up c n]; rfl
theorem up_len (c : Int) (n : Nat) : (upI c n).length = n := by rw [← seq_up, seq_len]
set_option maxRecDepth 100000 in
set_option maxHeartbeats 4000000 in
theorem walk (a0 : Int) (a1 : Int) (w : World) (w0 : (Lit.int .i64 a0).wf = true) (w1 : (Lit.int .i64 a1).wf = true) :
    Calls Try.prog 4 #[.int .i64 a0, .int .i64 a1] w fun e w' => e = .returned (.bool true) ∧ Below w.heap.size w w' := by
  obtain ⟨Z, hZ⟩ : ∃ Z : Int, IntKind.u64.wrap a0 = Z := ⟨_, rfl⟩
  obtain ⟨Y, hY⟩ : ∃ Y : Int, IntKind.u64.wrap a1 = Y := ⟨_, rfl⟩
  have z1 : 0 ≤ Z := by rw [← hZ, IntKind.wrap_u64]; omega
  have y1 : 0 ≤ Y := by rw [← hY, IntKind.wrap_u64]; omega
  obtain ⟨g, hg⟩ : ∃ g : Int, Z % 101 = g := ⟨_, rfl⟩
  obtain ⟨k, hk⟩ : ∃ k : Nat, Y % 51 = (k : Int) := ⟨(Y % 51).toNat, by omega⟩
  have g0 : 0 ≤ g := by omega
  have g1 : g ≤ 100 := by omega
  have k1 : k ≤ 50 := by omega
  go_enter Try.func4, Try.ntmps4
  go_wp2_with fail
  clear hZ hY z1 y1 hg hk
  go_loopw [7, 8] (fun v y wr => ∃ (s : Option Addr) (cap i : Nat), v = .slice s i cap ∧ y = .int .i64 i ∧ i ≤ k ∧ Hid (Below w.heap.size w wr) ∧ Hid (OffRow wr (.slice s i cap) (seqI 0 i)) ∧ Hid (Low w.heap.size (fun k => (Value.slice s i cap).ownBlock = some k))) (fun _ y _ => (k - (RowKit.intOf y).toNat))
  case atStart => exact ⟨none, 0, 0, rfl, rfl, by omega, Lib.hid (Below.refl _ _), Lib.hid (offrow_nil _), Lib.hid (low_nil _)⟩
  case round =>
    obtain ⟨s, cap, i, rfl, rfl, i1, hB, hR, hL⟩ := hrel
    by_cases hi : i < k
    · have i2 : (i : Int) < (k : Int) := by omega
      have hsrc := Lib.hid (src_one wr (i : Int))
      have hb1 : Below wr.heap.size wr (wr.alloc (.cells #[.int .i64 i] 3)) := below_alloc (Below.refl _ _) _
      have hR2 := Lib.hid (off_below hR.out hb1)
      have hsz := Nat.le_trans hB.out.size hb1.size
      have hbd : (seqI 0 i).length + [(i : Int)].length ≤ 1000000 := by rw [seq_len]; simp; omega
      have hnx : Hid (∀ (w2 : World) (v2 : Value), OffRow w2 v2 (seqI 0 i ++ [(i : Int)]) → Below w.heap.size (wr.alloc (.cells #[.int .i64 i] 3)) w2 → (∃ s2 c2, v2 = .slice s2 (i + 1) c2) ∧ Hid (Below w.heap.size w w2) ∧ Hid (OffRow w2 v2 (seqI 0 (i + 1)))) := Lib.hid fun w2 v2 q1 q2 => by
        rw [show seqI 0 i ++ [(i : Int)] = seqI 0 (i + 1) by show _ = seqI 0 i ++ [0 + (i : Int)]; rw [Int.zero_add]] at q1
        exact ⟨off_slice q1 (seq_len _ _), Lib.hid ((hB.out.trans (hb1.mono hB.out.size)).trans q2), Lib.hid q1⟩
      have hl1 : (seqI 0 i).length = i := seq_len _ _
      have hR3 : Hid (OffRow (wr.alloc (.cells #[.int .i64 i] 3)) (.slice s i cap) (seqI 0 i)) := hR2
      clear hR hB hb1 hR2
      go_wp2_with (at_builtin; refine wpList_append_low rfl (.tmp 27) (.tmp 29) rfl rfl w.heap.size hR3.out hL.out hsz rfl rfl hsrc.out hbd ?_; intro v3 w3 q1 q2 q3; have hk := hnx.out w3 v3 q1 q3; obtain ⟨⟨s3, c3, rfl⟩, hB, hR⟩ := hk; replace q2 := Lib.hid q2; clear q1 q3 hnx hR3 hL hsrc)
      go_roundw
      case rel => exact ⟨s3, c3, i + 1, rfl, by go_num, by omega, hB, hR, q2⟩
      case measure => simp [RowKit.intOf]; omega
    · obtain rfl : i = k := by omega
      have i2 : ¬ ((i : Int) < (i : Int)) := by omega
      have cn := new_sro (w := wr) (n := g) (t := g) hR.out.ints (by rw [seq_len]; omega) (by omega) (by omega)
      replace hB := hB.out
      clear hR hL
      go_wp2_with fail
      with_reducible refine Calls.mono cn ?_
      rintro e w2 ⟨p, H, rfl, hp, hs⟩
      clear cn
      have hs1 : ∃ c : Nat, cntJ (g - 0) = (c : Int) ∧ Sro wr w2 p H (gj g c 0) (upI 0 (i - 0)) := by
        have hcb := cnt_bd (n := g - 0) (by omega) (by omega)
        refine ⟨(cntJ (g - 0)).toNat, by omega, ?_⟩
        rw [show g - 0 = g by omega, Nat.sub_zero, ← seq_up]; exact hs
      obtain ⟨c, hc, hs⟩ := hs1
      have cl := hs.left (by rw [up_len]; omega)
      rw [gj_len, up_len] at cl
      have hc' : g / 8 + min (g % 8) 1 = (c : Int) := by rw [← hc]; unfold cntJ; rw [show g - 0 = g by omega]
      have hq : ((c + (i - 0) : Nat) : Int) = (g + 7) / 8 + (i : Int) := by omega
      rw [hq] at cl
      replace hs := Lib.hid hs
      go_wp2_with fail
      with_reducible refine Calls.mono (cl) ?_
      rintro e w3 ⟨rfl, m, rfl⟩
      have hs := Lib.hid (hs.out.below (below_drewN (Below.refl _ _) m))
      clear cl hc' hq
      generalize w2.drewN m = w2 at *
      go_wp2_with fail
      generalize wr = W1 at *
      go_loopw [10, 11] (fun x y wq => ∃ (fr : Int) (b d : Nat) (H : Home), x = .int .i64 fr ∧ y = .int .i64 b ∧ 0 ≤ fr ∧ fr ≤ g ∧ b ≤ i ∧ cntJ (g - fr) = (d : Int) ∧ (0 < b → d = 0) ∧ Hid (Sro W1 wq p H (gj g d fr) (upI b (i - b)))) (fun x y _ => ((g - RowKit.intOf x).toNat + (i - (RowKit.intOf y).toNat)))
      case atStart => exact ⟨0, 0, c, H, rfl, rfl, by omega, by omega, by omega, hc, by omega, hs⟩
      case round =>
        obtain ⟨fr, b, d, H, rfl, rfl, f0, f1, b1, hd, hbd, hs⟩ := hrel
        have cl := hs.out.left (by rw [up_len]; omega)
        rw [gj_len, up_len] at cl
        obtain ⟨q, hq⟩ : ∃ q : Nat, d + (i - b) = q := ⟨_, rfl⟩
        rw [hq] at cl
        go_wp2_with fail
        with_reducible refine Calls.mono (cl) ?_
        rintro e w3 ⟨rfl, m, rfl⟩
        have hs := hs.out.below (below_drewN (Below.refl _ _) m)
        clear cl
        generalize wr.drewN m = w3 at *
        by_cases h0 : q = 0
        · obtain rfl : d = 0 := by omega
          obtain rfl : b = i := by omega
          have hgf : fr = g := by have := cnt_none (n := g - fr) (by omega) (by simpa using hd); omega
          subst hgf
          subst h0
          have hb := hB.trans (hs.out.mono hB.size)
          clear hs
          go_wp2_with fail
          with_reducible refine Calls.mono (told_any w3) ?_
          rintro e w4 ⟨rfl, hb4⟩
          have hb := hb.trans (hb4.mono hb.size)
          clear hb4
          go_wp2_with fail
          go_ret
          exact ⟨rfl, hb⟩
        · have q0 : (0 : Int) < (q : Int) := by omega
          have hd2 : (d : Int) ≤ 13 := by unfold cntJ at hd; omega
          have q1 : (q : Int) ≤ 200 := by omega
          rcases d with _ | d
          · obtain ⟨r, hr⟩ : ∃ r, i - b = r + 1 := ⟨i - b - 1, by omega⟩
            rw [hr] at hs
            have cx : Calls Try.prog 19 #[.pointer (some ⟨p, 0, none⟩)] w3 fun e W' => e = .returned (.tuple #[jv (b, 0, 16), .bool true]) ∧ ∃ H', Wrote H w3 H' W' ∧ Sro W1 W' p H' [] (upI ((b : Int) + 1) r) := hs.next
            clear hs
            have b0 : (0 : Int) ≤ (b : Int) := by omega
            have b3 : (b : Int) ≤ 50 := by omega
            have bn : ((b : Int) == -1) = false := by rw [beq_eq_false_iff_ne]; omega
            go_wp2_with fail
            with_reducible refine Calls.mono (cx) ?_
            rintro e w4 ⟨rfl, H4, -, hs⟩
            have hs := Lib.hid (hs.below (below_alloc (Below.refl _ w4) (box3 b 0 16)))
            obtain ⟨x0, x1, x2⟩ := box_cells (heap_alloc_new w4 (box3 b 0 16))
            clear cx
            go_wp2_with fail
            go_roundw
            case rel => exact ⟨fr, b + 1, 0, H4, rfl, by go_num, f0, f1, by omega, hd, by omega, by have := hs.out; rw [show i - (b + 1) = r by omega, show ((b + 1 : Nat) : Int) = (b : Int) + 1 by omega]; exact Lib.hid this⟩
            case measure => simp [RowKit.intOf]; omega
          · obtain rfl : b = 0 := by omega
            obtain ⟨e1, e2, e3⟩ := cnt_step (n := g - fr) (by omega) hd
            obtain ⟨x, hx⟩ : ∃ x, fr + min (g - fr) 8 = x := ⟨_, rfl⟩
            have cx : Calls Try.prog 19 #[.pointer (some ⟨p, 0, none⟩)] w3 fun e W' => e = .returned (.tuple #[jv (-1, fr, fr + min (g - fr) 8), .bool true]) ∧ ∃ H', Wrote H w3 H' W' ∧ Sro W1 W' p H' (gj g d (fr + min (g - fr) 8)) (upI (0 : Nat) (i - 0)) := hs.next
            rw [hx] at cx
            clear hs
            have x4 : fr < x := by omega
            have x5 : x ≤ fr + 8 := by omega
            have x6 : x ≤ g := by omega
            have hd3 : cntJ (g - x) = (d : Int) := by rw [← e2]; congr 1; omega
            go_wp2_with fail
            with_reducible refine Calls.mono (cx) ?_
            rintro e w4 ⟨rfl, H4, -, hs⟩
            have hs := Lib.hid (hs.below (below_alloc (Below.refl _ w4) (box3 (-1) fr x)))
            obtain ⟨x0, x1, x2⟩ := box_cells (heap_alloc_new w4 (box3 (-1) fr x))
            clear cx
            by_cases hxg : x = g
            · clear hx e1 e2 e3
              subst hxg
              go_wp2_with fail
              all_goals
                go_roundw
                case rel => exact ⟨x, 0, d, H4, rfl, rfl, by omega, by omega, by omega, hd3, by omega, hs⟩
                case measure => simp [RowKit.intOf]; omega
            · have hx8 : x = fr + 8 := by omega
              clear hx e1 e2 e3
              subst hx8
              go_wp2_with fail
              all_goals
                go_roundw
                case rel => exact ⟨fr + 8, 0, d, H4, rfl, rfl, by omega, by omega, by omega, hd3, by omega, hs⟩
                case measure => simp [RowKit.intOf]; omega

set_option maxRecDepth 100000 in
theorem lifted (os : Os) (started : os.Started) (H : Type) (enc : TypeId × Value → H) :
    ReturnsInHanded {} Try.checked os 4 .any (Rows.rootsEachSpec.pre6 enc Try.prog Try.f4 Rows.rootsEachRow.domain false) (Rows.rootsEachSpec.post enc Try.prog Try.f4 false true false false) := by
  refine returnsInHanded_of_change (C := Try.checked) own started (by kernel_rfl) Try.func4
    (ChangeSpec.witness6 (enc := enc) (C := Try.checked) false ⟨#[], #[.int .i64 0, .int .i64 0], []⟩ 8 (by kernel_rfl) (by kernel_rfl) (by kernel_rfl) (by kernel_rfl)) ?_
  intro W base args ds gs before hval0 hW hcnd _
  have hval : ∀ (j : Nat) t v, Try.f4.params[j]? = some t → args[j]? = some v → Value.okWide Try.prog W .any base t v := hval0
  have hW' := hW
  obtain ⟨p, q, hA0, hV, rfl, hfz, hnd⟩ := hW
  have hA : DataW.TrodAll enc Try.prog W 0 (fun _ => true) true Try.f4.params.toList args.toList ds p := hA0
  rw [Try.params4] at hA hval
  obtain ⟨v0, vs0, d0, ds0, p0, q0, hargs, rfl, rfl, h0, r0⟩ := trodAll_cons hA
  obtain ⟨v1, vs1, d1, ds1, p1, q1, rfl, rfl, rfl, h1, r1⟩ := trodAll_cons r0
  obtain ⟨rfl, rfl, rfl⟩ := trodAll_nil r1
  obtain rfl : args = #[v0, v1] := by cases args; simp_all
  obtain ⟨rfl, rfl⟩ := trodVars_none hV
  obtain ⟨a0, rfl, rfl, rfl, w0⟩ := open_int Try.underlying3 (hval 0 3 v0 rfl rfl) h0
  obtain ⟨a1, rfl, rfl, rfl, w1⟩ := open_int Try.underlying3 (hval 1 3 v1 rfl rfl) h1
  clear hA0 hval0
  simp only [List.append_nil] at hW'
  refine (walk a0 a1 W w0 w1).mono fun e W' ⟨he, hg⟩ => ?_
  subst he
  exact ⟨_, rfl, post_of_kept (pa := _) (pv := []) hW' (fun _ _ _ => (trodAll_cons_mk (shut_bool Try.underlying4 _) trodAll_mk0)) (trodAll_cons_mk (shut_int Try.underlying3 w0) (trodAll_cons_mk (shut_int Try.underlying3 w1) trodAll_mk0)) (fun _ _ => rfl) (by simp) hg⟩

theorem over : Rows.rootsEachRow.holds Try.pinned (OpenSpec.ofChange Rows.rootsEachSpec) :=
  OpenClaim.holds_of_wide 4 Try.f4 rfl rfl rfl rfl rfl rfl rfl ⟨rfl, rfl, rfl, rfl, rfl⟩ rfl rfl rfl rfl rfl (by kernel_rfl) Try.func4 (by kernel_rfl)
    (of_decide_eq_true (by kernel_rfl)) (by unfold Func.isWrapper; first | (rw [if_pos (by decide +kernel)]; kernel_rfl) | (rw [if_neg (by decide +kernel)]; exact ⟨rfl, rfl⟩))
    (fun os started H enc _ => lifted os started H enc)

theorem proved : Rows.RootsEachSaid :=
  over
#print axioms proved
end Go.Proofs.Ytkpmifkdnndccaa.rootsEach
