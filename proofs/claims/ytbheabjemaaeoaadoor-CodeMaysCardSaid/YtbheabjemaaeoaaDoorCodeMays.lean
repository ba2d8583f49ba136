/- Which programs may be, the first instruction that may not, and their bytes are what the document says (15.1, 15.2): any program. No further condition but the listed table. -/
import Derived.Test.YtbheabjemaaeoaaDoorHome
import Derived.Test.YtbheabjemaaeoaaDoorGreat
import Derived.Test.YtbheabjemaaeoaaDoorREncode
import Derived.WalkKit
import Derived.ProofKit
import Derived.OpenShut
import Derived.Test.YtbheabjemaaeoaaDoorTie
import Derived.Test.YtbheabjemaaeoaaDoorCards
import Derived.LaidMore
import Derived.Stop.Joined
import Derived.SevenTiedAt
import Derived.Deep.RegionHeld3
namespace Go.Proofs.YtbheabjemaaeoaaDoor.codeMays
open Go.ChangeShapes Go.WideShapes Go.ChangeAt Go.WideElems Go.RowKit Go.Lib Fx Ho Gr Cd
set_option linter.unusedVariables false

theorem own : ownKnob Tryd.prog.godebug = none := by kernel_rfl

set_option maxRecDepth 100000 in
set_option maxHeartbeats 4000000 in
theorem walk (g0 : Int) (v0 : Value) (fs0 : List (List Ins)) (w : World) (hT : Tk w) (h0 : FRow w v0 fs0) :
    Calls Tryd.prog 13 #[.agg #[.int .i64 g0, v0]] w fun e w' => e = .returned (.bool true) ∧ Below w.heap.size w w' := by
  obtain ⟨sp, cap, rfl, -⟩ := h0.fix
  have hbU : Hid (Below w.heap.size w (w.alloc (.cells #[.int .i64 g0, .slice sp fs0.length cap] 49))) := Lib.hid (below_alloc (Below.refl _ _) _)
  have hC := heap_alloc_new w (.cells #[.int .i64 g0, .slice sp fs0.length cap] 49)
  have c0 : (w.alloc (.cells #[.int .i64 g0, .slice sp fs0.length cap] 49)).cell? ⟨w.heap.size, 0, none⟩ = some (.int .i64 g0) := cell_of hC rfl
  have c1 : (w.alloc (.cells #[.int .i64 g0, .slice sp fs0.length cap] 49)).cell? ⟨w.heap.size, 1, none⟩ = some (.slice sp fs0.length cap) := cell_of hC rfl
  have cg := great_any (h0.below hbU.out) g0
  have hall : Hid (∀ V, Below w.heap.size w V → Tk V ∧ FRow V (.slice sp fs0.length cap) fs0) := Lib.hid fun V hV => ⟨hT.below hV, h0.below hV⟩
  clear h0 hT
  obtain ⟨N, hN⟩ : ∃ N, w.heap.size = N := ⟨_, rfl⟩
  rw [hN] at c0 c1
  generalize fs0.length = m at *
  go_enter Tryd.func13, Tryd.ntmps13
  go_wp2_with fail
  obtain ⟨U, hU⟩ : ∃ U, w.alloc (.cells #[.int .i64 g0, .slice sp m cap] 49) = U := ⟨_, rfl⟩
  rw [hU] at hbU c0 c1 cg ⊢
  clear hU hC
  with_reducible refine Calls.mono cg ?_
  rintro e w1 ⟨rfl | rfl, hb1⟩
  · have hbw := Lib.hid (hbU.out.trans (hb1.mono hbU.out.size))
    have ct := told_any (hall.out w1 hbw.out).1
    clear cg hall c0 c1 hb1 hbU
    go_wp2_with fail
    with_reducible refine Calls.mono ct ?_
    rintro e w2 ⟨rfl, hb2⟩
    have hfin := hbw.out.trans (hb2.mono hbw.out.size)
    clear ct hb2 hbw
    go_wp2_with fail
    go_ret
    exact ⟨rfl, hfin⟩
  · have hbw := Lib.hid (hbU.out.trans (hb1.mono hbU.out.size))
    have ce := encode_any (hall.out w1 hbw.out).1 (hall.out w1 hbw.out).2 g0
    have c0 := cell_then hb1 c0
    have c1 := cell_then hb1 c1
    clear cg hb1 hbU
    go_wp2_with fail
    with_reducible refine Calls.mono ce ?_
    intro e w2 hE
    clear ce
    obtain ⟨b, bb, z, r, rfl, hr, hb2, hcv, hz⟩ : ∃ (b : Value) (bb : ByteArray) (z r : Int), e = .returned (.tuple #[b, .int .i64 z]) ∧ MayIs g0 fs0 r ∧ Below w1.heap.size w1 w2 ∧ (∀ V, Below w2.heap.size w2 V → (convert 62 9 b).run Tryd.prog V = .ok (.string bb) V) ∧ ((r = 0 ∧ z = 0 ∧ bb = byts (enc g0 fs0)) ∨ (r ≠ 0 ∧ z = 1 ∧ bb = ⟨#[]⟩)) := by
      rcases hE with ⟨hm, v, he, hv⟩ | ⟨r, hm, hr, he, hb⟩
      · refine ⟨v, _, 0, 0, he, hm, hv.low, fun V hV => grow_str (hv.row.below hV) (by unfold enc; simp) (enc_bytes hm), .inl ⟨rfl, rfl, rfl⟩⟩
      · refine ⟨_, ⟨#[]⟩, 1, r, he, hm, hb, fun V hV => ?_, .inr ⟨hr, rfl, rfl⟩⟩
        rw [run_convert_bytes_string V 62 9 5 none 0 0 Tryd.underlying62 Tryd.underlying5 Tryd.underlying9]; rfl
    clear hE
    have hbw2 := Lib.hid (hbw.out.trans (hb2.mono hbw.out.size))
    have crf := refencode_any (hall.out w2 hbw2.out).2 g0
    have c0 := cell_then hb2 c0
    have c1 := cell_then hb2 c1
    replace hcv := Lib.hid hcv
    clear hb2 hbw
    go_wp2_with fail
    with_reducible refine Calls.mono crf ?_
    rintro e w3 ⟨hb3, hE⟩
    have hbw3 := Lib.hid (hbw2.out.trans (hb3.mono hbw2.out.size))
    have c0 := cell_then hb3 c0
    have c1 := cell_then hb3 c1
    have hcv0 := hcv.out w3 hb3
    have hcv : Hid (∀ V, Below w3.heap.size w3 V → (convert 62 9 b).run Tryd.prog V = .ok (.string bb) V) := Lib.hid fun V hV => hcv.out V (hb3.trans (hV.mono hb3.size))
    obtain rfl : e = .returned (.tuple #[.string bb, .int .i64 z]) := by
      rcases hE with ⟨hm, he⟩ | ⟨r', hm, hr', he⟩
      · rcases hz with ⟨_, rfl, rfl⟩ | ⟨h1, _⟩
        · exact he
        · exact absurd (hr.one hm) h1
      · rcases hz with ⟨h1, _⟩ | ⟨_, rfl, rfl⟩
        · exact absurd ((hm.one hr).trans h1) hr'
        · exact he
    have hbd : Below w3.heap.size w3 w3.drew := (Below.refl _ _).drew
    have hS : Hid (∀ V, Below w3.heap.size w3 V → V.cell? ⟨N, 0, none⟩ = some (.int .i64 g0) ∧ V.cell? ⟨N, 1, none⟩ = some (.slice sp m cap) ∧ (convert 62 9 b).run Tryd.prog V = .ok (.string bb) V) := Lib.hid fun V hV => ⟨cell_then hV c0, cell_then hV c1, hcv.out V hV⟩
    have hV3 : Hid (∀ V, Below w3.heap.size w3 V → Tk V ∧ FRow V (.slice sp m cap) fs0) := Lib.hid fun V hV => hall.out V (hbw3.out.trans (hV.mono hbw3.out.size))
    have ct : Hid (∀ V, Below w3.heap.size w3 V → Calls Tryd.prog 37 #[] V fun e wz => e = .returned (.bool true) ∧ (wz.cell? ⟨N, 0, none⟩ = some (.int .i64 g0) ∧ wz.cell? ⟨N, 1, none⟩ = some (.slice sp m cap) ∧ (convert 62 9 b).run Tryd.prog wz = .ok (.string bb) wz) ∧ Below w3.heap.size w3 wz) := Lib.hid fun V hV => (told_any (hV3.out V hV).1).mono fun e wz ⟨he, hz⟩ => by
      have h4 := hV.trans (hz.mono hV.size)
      exact ⟨he, hS.out wz h4, h4⟩
    have cm : Hid (∀ V, Below w3.heap.size w3 V → Calls Tryd.prog 38 #[.agg #[.int .i64 g0, .slice sp m cap]] V fun e wz => e = .returned (.int .i64 r) ∧ (wz.cell? ⟨N, 0, none⟩ = some (.int .i64 g0) ∧ wz.cell? ⟨N, 1, none⟩ = some (.slice sp m cap) ∧ (convert 62 9 b).run Tryd.prog wz = .ok (.string bb) wz) ∧ Below w3.heap.size w3 wz) := Lib.hid fun V hV => (codemay_any (hV3.out V hV).1 (hV3.out V hV).2 g0).mono fun e wz ⟨r', he, hm, hz⟩ => by
      have h4 := hV.trans (hz.mono hV.size)
      exact ⟨by rw [he, hm.one hr], hS.out wz h4, h4⟩
    have cr : Hid (∀ V, Below w3.heap.size w3 V → Calls Tryd.prog 32 #[.agg #[.int .i64 g0, .slice sp m cap]] V fun e wz => e = .returned (.int .i64 r) ∧ (wz.cell? ⟨N, 0, none⟩ = some (.int .i64 g0) ∧ wz.cell? ⟨N, 1, none⟩ = some (.slice sp m cap) ∧ (convert 62 9 b).run Tryd.prog wz = .ok (.string bb) wz) ∧ Below w3.heap.size w3 wz) := Lib.hid fun V hV => (refmay_any (hV3.out V hV).2 g0).mono fun e wz ⟨r', he, hm, hz⟩ => by
      have h4 := hV.trans (hz.mono hV.size)
      exact ⟨by rw [he, hm.one hr], hS.out wz h4, h4⟩
    have hcv1 := hcv.out _ hbd
    clear crf hE hr hz hbw2 hcv hall hS hV3 hb3
    go_wp2_with fail
    go_region_held3 (fun W' => W'.cell? ⟨N, 0, none⟩ = some (.int .i64 g0) ∧ W'.cell? ⟨N, 1, none⟩ = some (.slice sp m cap) ∧ (convert 62 9 b).run Tryd.prog W' = .ok (.string bb) W') (first | exact ⟨c0, c1, hcv1⟩ | go_keep | assumption) (first | (go_at_call 38; ((with_reducible refine (cm.out _ (by repeat (first | assumption | exact Below.refl _ _ | refine below_drewN ?_ _ | refine below_alloc ?_ _ | refine below_then ?_ (by assumption)))).mono ?_); rintro e wy ⟨rfl, hky, hby⟩)) | (go_at_call 32; ((with_reducible refine (cr.out _ (by repeat (first | assumption | exact Below.refl _ _ | refine below_drewN ?_ _ | refine below_alloc ?_ _ | refine below_then ?_ (by assumption)))).mono ?_); rintro e wx ⟨rfl, hkx, hbx⟩)) | (go_at_call 37; ((with_reducible refine (ct.out _ (by repeat (first | assumption | exact Below.refl _ _ | refine below_drewN ?_ _ | refine below_alloc ?_ _ | refine below_then ?_ (by assumption)))).mono ?_); rintro e wz ⟨rfl, hkz, hbz⟩)))
    all_goals
      clear cm cr ct
      go_wp2_with fail
      go_ret
      exact ⟨rfl, hbw3.out.trans (Below.mono (by assumption) hbw3.out.size)⟩

set_option maxRecDepth 100000 in
theorem lifted (os : Os) (started : os.Started) (H : Type) (enc : TypeId × Value → H) :
    ReturnsInHanded {} Tryd.checked os 13 .any (fun w args => (Rows.codeMaysSpec.pre enc Tryd.prog Tryd.f13 [] false w args ∧ laidMetH Tryd.prog [("treadmill/code.takes", Rows.laid_treadmill_code_takes)] w) ∧ sizedMet enc Tryd.prog Tryd.f13 (OpenSpec.ofChange Rows.codeMaysSpec) false w args) (Rows.codeMaysSpec.post enc Tryd.prog Tryd.f13 false true false false) := by
  refine returnsInHanded_of_change_and (C := Tryd.checked) (X := fun w _ => laidMetH Tryd.prog [("treadmill/code.takes", Rows.laid_treadmill_code_takes)] w) (fun _ _ _ hh h => h.of_heap hh) own started (by kernel_rfl) Tryd.func13
    (ChangeSpec.witness_shaped (enc := enc) (C := Tryd.checked) (os := os) (X := fun w _ => laidMetH Tryd.prog [("treadmill/code.takes", Rows.laid_treadmill_code_takes)] w) false (World.doorLaid Tryd.prog 400 os) #[.agg #[.int .i64 0, .slice none 0 0]] 8 rfl (World.shaped_of_RefB (by kernel_rfl) (by kernel_rfl)) (by kernel_rfl) (by kernel_rfl) (by kernel_rfl) (door_met os _)) ?_
  intro W base args ds gs before hval0 hW _ _ hL _
  have hval : ∀ (j : Nat) t v, Tryd.f13.params[j]? = some t → args[j]? = some v → Value.okWide Tryd.prog W .any base t v := hval0
  have hW' := hW
  obtain ⟨p, q, hA0, hV, rfl, hfz, hnd⟩ := hW
  have hA : DataW.TrodAll enc Tryd.prog W 0 (fun _ => true) true Tryd.f13.params.toList args.toList ds p := hA0
  rw [Tryd.params13] at hA hval
  obtain ⟨v0, vs0, d0, ds0, p0, q0, hargs, rfl, rfl, h0, r0⟩ := trodAll_cons hA
  obtain ⟨rfl, rfl, rfl⟩ := trodAll_nil r0
  obtain rfl : args = #[v0] := by cases args; simp_all
  obtain ⟨rfl, rfl⟩ := trodVars_none hV
  obtain ⟨g0, fv0, fs0, rfl, i0⟩ := prog_arg (hval 0 49 v0 rfl rfl) h0
  clear hA0 hval0
  simp only [List.append_nil] at hW'
  have lt0 : ∀ x ∈ p0, x.block < W.heap.size := fun x hx => by have := hW'.lt x (by simp [hx]); simpa using this
  refine (walk g0 fv0 fs0 W (tk_of_laid hL) i0).mono fun e W' ⟨he, hg⟩ => ?_
  subst he
  exact ⟨_, rfl, post_of_kept (pa := _) (pv := []) hW' (fun _ _ _ => (trodAll_cons_mk (shut_bool Tryd.underlying4 _) trodAll_mk0)) (trodAll_cons_mk (Below.trod laidOut (by kernel_rfl) (of_decide_eq_true (by kernel_rfl)) h0 hg lt0) trodAll_mk0) (fun _ _ => rfl) (by simp) hg⟩

theorem over : Rows.codeMaysRow.holds Tryd.pinned (OpenSpec.ofChange Rows.codeMaysSpec) :=
  OpenClaim.holds_of_wide 13 Tryd.f13 rfl rfl rfl rfl rfl rfl rfl ⟨rfl, rfl, rfl, rfl, rfl⟩ rfl rfl rfl rfl rfl (by kernel_rfl) Tryd.func13 (by kernel_rfl)
    (of_decide_eq_true (by kernel_rfl)) (by unfold Func.isWrapper; first | (rw [if_pos (by decide +kernel)]; kernel_rfl) | (rw [if_neg (by decide +kernel)]; exact ⟨rfl, rfl⟩))
    (fun os started H enc _ => lifted os started H enc)

theorem proved : Rows.CodeMaysCardSaid :=
  Claim7.holds_tied_plain_at .later [] [.data] true Rows.codeMaysCard.stood.harness true
    over (fun _ h => by cases h) (by kernel_rfl) (fun _ h => by cases h) codeMays_row_tie rfl ⟨rfl, rfl⟩ (by kernel_rfl) rfl
    (fun f fn hf hfn => by
      obtain rfl : f = 13 := Option.some.inj ((show Tryd.prog.funcNamed "treadmill/treadmilllaw15.CodeMays" = some 13 by kernel_rfl).symm.trans hf) |>.symm
      obtain rfl : fn = Tryd.f13 := (Option.some.inj (Tryd.func13.symm.trans hfn)).symm
      exact ⟨by kernel_rfl, fun j t ht => by
        rw [Tryd.params13] at ht
        have hm : t ∈ [49] := by simpa using Array.mem_of_getElem? ht
        have hall : ([49].all fun u => !Tryd.prog.wantsStandIn u) = true := by kernel_rfl
        exact (show Tryd.prog.wantsStandIn t = false by simpa using List.all_eq_true.1 hall t hm)⟩)
    (by kernel_rfl)
#print axioms proved
end Go.Proofs.YtbheabjemaaeoaaDoor.codeMays
