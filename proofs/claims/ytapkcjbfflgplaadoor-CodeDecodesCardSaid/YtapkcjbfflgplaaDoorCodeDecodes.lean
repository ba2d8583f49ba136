/- What bytes mean, or the first that is wrong, is what the document says (15.1, 15.2): any bytes (at most 1,000). No further condition but the listed table. -/
import Derived.Test.YtapkcjbfflgplaaDoorHome
import Derived.Test.YtapkcjbfflgplaaDoorDecBoth
import Derived.Test.YtapkcjbfflgplaaDoorSame
import Derived.Test.YtapkcjbfflgplaaDoorGreat
import Derived.WalkKit
import Derived.ProofKit
import Derived.OpenShut
import Derived.Test.YtapkcjbfflgplaaDoorTie
import Derived.Test.YtapkcjbfflgplaaDoorCards
import Derived.LaidMore
import Derived.Stop.Joined
import Derived.SevenTiedAt
import Derived.Deep.RegionHeld3
import Derived.Deep.RegionWith
import Derived.Deep.Cut
import Derived.Deep.CutBlock
import Derived.Deep.CutRange
import Derived.Deep.LoopGhost
import Derived.Deep.DeepCutAuto
import Derived.RegionTactic
import Derived.StillTailTactics
import Derived.Deep.RegionLaw
namespace Go.Proofs.YtapkcjbfflgplaaDoor.codeDecodes
open Go.ChangeShapes Go.WideShapes Go.ChangeAt Go.WideElems Go.RowKit Go.Lib Fx Ho Gr Cd
set_option linter.unusedVariables false

theorem own : ownKnob Tryd.prog.godebug = none := by kernel_rfl

set_option maxRecDepth 100000 in
set_option maxHeartbeats 4000000 in
theorem walk (v0 : Value) (z0 : List Int) (w : World) (hT : Tk w) (h0 : BRow w (fun k => k < w.heap.size) v0 z0) :
    Calls Tryd.prog 12 #[v0] w fun e w' => e = .returned (.bool true) ∧ Below w.heap.size w w' := by
  obtain ⟨sp, cap, rfl, hm9, -⟩ := id h0
  obtain ⟨n, hn⟩ : ∃ n, z0.length = n := ⟨_, rfl⟩
  rw [hn] at h0 hm9 ⊢
  by_cases h1 : 1000 < n
  · have e1 : decide (1000 < (n : Int)) = true := decide_eq_true (by omega)
    have e2 : (1000 : Int) < (n : Int) := by omega
    have ct := told_any hT
    clear h0 hT
    go_enter Tryd.func12, Tryd.ntmps12
    go_wp2_with fail
    with_reducible refine Calls.mono ct ?_
    rintro e w2 ⟨rfl, hb2⟩
    clear ct
    go_wp2_with fail
    go_ret
    exact ⟨rfl, hb2⟩
  · have e1 : decide (1000 < (n : Int)) = false := decide_eq_false (by omega)
    have e2 : ¬ (1000 : Int) < (n : Int) := by omega
    have cd := decode_any hT h0
    have hall : Hid (∀ V, Below w.heap.size w V → Tk V ∧ BRow V (fun k => k < w.heap.size) (.slice sp n cap) z0) := Lib.hid fun V hV => ⟨hT.below hV, h0.wrote (H := fun _ => False) (Wrote.of_below hV) (fun _ _ h => h)⟩
    replace hn := Lib.hid hn
    clear h0 hT
    go_enter Tryd.func12, Tryd.ntmps12
    go_wp2_with fail
    with_reducible refine Calls.mono cd ?_
    intro e w1 hE
    obtain ⟨G, fs, s1, c1, er, at_, rfl, hR, hF, hb1⟩ := hE.res
    clear cd hE
    have hlen : Hid (fs.length ≤ 9223372036854775807) := Lib.hid (by obtain ⟨_, _, _, hl, _⟩ := hF; exact hl)
    obtain ⟨m, hm⟩ : ∃ m, fs.length = m := ⟨_, rfl⟩
    rw [hm] at hF hlen ⊢
    have hbA := below_alloc hb1 (.cells #[.int .i64 G, .slice s1 m c1] 49)
    have kA := heap_alloc_new w1 (.cells #[.int .i64 G, .slice s1 m c1] 49)
    have a0 := cell_of kA (j := 0) rfl
    have a1 := cell_of kA (j := 1) rfl
    have hFA := hF.below (below_alloc (Below.refl _ _) (.cells #[.int .i64 G, .slice s1 m c1] 49))
    have cr := refdecode_any (hall.out _ hbA).2 (by rw [hn.out]; omega)
    replace hR := Lib.hid hR
    replace hFA := Lib.hid hFA
    replace hbA := Lib.hid hbA
    replace hm := Lib.hid hm
    clear hF kA hb1
    obtain ⟨NA, hNA⟩ : ∃ NA, w1.heap.size = NA := ⟨_, rfl⟩
    rw [hNA] at a0 a1
    go_wp2_with fail
    obtain ⟨wA, hwA⟩ : ∃ wA, w1.alloc (.cells #[.int .i64 G, .slice s1 m c1] 49) = wA := ⟨_, rfl⟩
    rw [hwA] at a0 a1 hFA hbA cr ⊢
    clear hwA hNA
    with_reducible refine Calls.mono cr ?_
    intro e w2 hE
    obtain ⟨G2, fs2, s2, c2, er2, at2, rfl, hR2, hF2, hb2⟩ := hE.res
    obtain ⟨rfl, rfl, rfl, rfl⟩ := hR.out.one hR2
    rw [hm.out] at hF2 ⊢
    clear cr hE hR hR2
    have hbB := below_alloc hb2 (.cells #[.int .i64 G2, .slice s2 m c2] 49)
    have kB := heap_alloc_new w2 (.cells #[.int .i64 G2, .slice s2 m c2] 49)
    have b0 := cell_of kB (j := 0) rfl
    have b1 := cell_of kB (j := 1) rfl
    have a0 := cell_then hbB a0
    have a1 := cell_then hbB a1
    have hFB := Lib.hid (hF2.below (below_alloc (Below.refl _ _) (.cells #[.int .i64 G2, .slice s2 m c2] 49)))
    have hFA := Lib.hid (hFA.out.below hbB)
    have hbw := Lib.hid (hbA.out.trans (hbB.mono hbA.out.size))
    have ct := told_any (hall.out _ hbw.out).1
    clear hF2 kB hb2 hbB hbA hall hlen hm hn
    obtain ⟨NB, hNB⟩ : ∃ NB, w2.heap.size = NB := ⟨_, rfl⟩
    rw [hNB] at b0 b1
    go_wp2_with fail
    obtain ⟨wB, hwB⟩ : ∃ wB, w2.alloc (.cells #[.int .i64 G2, .slice s2 m c2] 49) = wB := ⟨_, rfl⟩
    rw [hwB] at a0 a1 b0 b1 hFA hFB hbw ct ⊢
    clear hwB hNB
    with_reducible refine Calls.mono ct ?_
    rintro e w3 ⟨rfl, hb3⟩
    have a0 := cell_then hb3 a0
    have a1 := cell_then hb3 a1
    have b0 := cell_then hb3 b0
    have b1 := cell_then hb3 b1
    have cs := same_any (hFA.out.below hb3) (hFB.out.below hb3) G2
    have hbw := Lib.hid (hbw.out.trans (hb3.mono hbw.out.size))
    clear ct hFA hFB hb3
    go_wp2_with fail
    with_reducible refine Calls.mono cs ?_
    rintro e w4 ⟨rfl, hb4⟩
    have hfin := hbw.out.trans (hb4.mono hbw.out.size)
    clear cs hb4 hbw
    go_wp2_with fail
    go_ret
    exact ⟨rfl, hfin⟩

set_option maxRecDepth 100000 in
theorem lifted (os : Os) (started : os.Started) (H : Type) (enc : TypeId × Value → H) :
    ReturnsInHanded {} Tryd.checked os 12 .any (fun w args => (Rows.codeDecodesSpec.pre enc Tryd.prog Tryd.f12 [] false w args ∧ laidMetH Tryd.prog [("treadmill/code.takes", Rows.laid_treadmill_code_takes)] w) ∧ sizedMet enc Tryd.prog Tryd.f12 (OpenSpec.ofChange Rows.codeDecodesSpec) false w args) (Rows.codeDecodesSpec.post enc Tryd.prog Tryd.f12 false true false false) := by
  refine returnsInHanded_of_change_and (C := Tryd.checked) (X := fun w _ => laidMetH Tryd.prog [("treadmill/code.takes", Rows.laid_treadmill_code_takes)] w) (fun _ _ _ hh h => h.of_heap hh) own started (by kernel_rfl) Tryd.func12
    (ChangeSpec.witness_shaped (enc := enc) (C := Tryd.checked) (os := os) (X := fun w _ => laidMetH Tryd.prog [("treadmill/code.takes", Rows.laid_treadmill_code_takes)] w) false (World.doorLaid Tryd.prog 400 os) #[.slice none 0 0] 8 rfl (World.shaped_of_RefB (by kernel_rfl) (by kernel_rfl)) (by kernel_rfl) (by kernel_rfl) (by kernel_rfl) (door_met os _)) ?_
  intro W base args ds gs before hval0 hW _ _ hL _
  have hval : ∀ (j : Nat) t v, Tryd.f12.params[j]? = some t → args[j]? = some v → Value.okWide Tryd.prog W .any base t v := hval0
  have hW' := hW
  obtain ⟨p, q, hA0, hV, rfl, hfz, hnd⟩ := hW
  have hA : DataW.TrodAll enc Tryd.prog W 0 (fun _ => true) true Tryd.f12.params.toList args.toList ds p := hA0
  rw [Tryd.params12] at hA hval
  obtain ⟨v0, vs0, d0, ds0, p0, q0, hargs, rfl, rfl, h0, r0⟩ := trodAll_cons hA
  obtain ⟨rfl, rfl, rfl⟩ := trodAll_nil r0
  obtain rfl : args = #[v0] := by cases args; simp_all
  obtain ⟨rfl, rfl⟩ := trodVars_none hV
  obtain ⟨z0, i0⟩ := bytes_arg (hval 0 62 v0 rfl rfl) h0
  clear hA0 hval0
  simp only [List.append_nil] at hW'
  have lt0 : ∀ x ∈ p0, x.block < W.heap.size := fun x hx => by have := hW'.lt x (by simp [hx]); simpa using this
  refine (walk v0 z0 W (tk_of_laid hL) i0).mono fun e W' ⟨he, hg⟩ => ?_
  subst he
  exact ⟨_, rfl, post_of_kept (pa := _) (pv := []) hW' (fun _ _ _ => (trodAll_cons_mk (shut_bool Tryd.underlying4 _) trodAll_mk0)) (trodAll_cons_mk (Below.trod laidOut (by kernel_rfl) (of_decide_eq_true (by kernel_rfl)) h0 hg lt0) trodAll_mk0) (fun _ _ => rfl) (by simp) hg⟩

theorem over : Rows.codeDecodesRow.holds Tryd.pinned (OpenSpec.ofChange Rows.codeDecodesSpec) :=
  OpenClaim.holds_of_wide 12 Tryd.f12 rfl rfl rfl rfl rfl rfl rfl ⟨rfl, rfl, rfl, rfl, rfl⟩ rfl rfl rfl rfl rfl (by kernel_rfl) Tryd.func12 (by kernel_rfl)
    (of_decide_eq_true (by kernel_rfl)) (by unfold Func.isWrapper; first | (rw [if_pos (by decide +kernel)]; kernel_rfl) | (rw [if_neg (by decide +kernel)]; exact ⟨rfl, rfl⟩))
    (fun os started H enc _ => lifted os started H enc)

theorem proved : Rows.CodeDecodesCardSaid :=
  Claim7.holds_tied_plain_at .later [] [.data] true Rows.codeDecodesCard.stood.harness true
    over (fun _ h => by cases h) (by kernel_rfl) (fun _ h => by cases h) codeDecodes_row_tie rfl ⟨rfl, rfl⟩ (by kernel_rfl) rfl
    (fun f fn hf hfn => by
      obtain rfl : f = 12 := Option.some.inj ((show Tryd.prog.funcNamed "treadmill/treadmilllaw15.CodeDecodes" = some 12 by kernel_rfl).symm.trans hf) |>.symm
      obtain rfl : fn = Tryd.f12 := (Option.some.inj (Tryd.func12.symm.trans hfn)).symm
      exact ⟨by kernel_rfl, fun j t ht => by
        rw [Tryd.params12] at ht
        have hm : t ∈ [62] := by simpa using Array.mem_of_getElem? ht
        have hall : ([62].all fun u => !Tryd.prog.wantsStandIn u) = true := by kernel_rfl
        exact (show Tryd.prog.wantsStandIn t = false by simpa using List.all_eq_true.1 hall t hm)⟩)
    (by kernel_rfl)
#print axioms proved
end Go.Proofs.YtapkcjbfflgplaaDoor.codeDecodes
