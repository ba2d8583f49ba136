/- treadmilllaw30.AuditEach. -/
import Derived.Test.YtneibhcigbfigaaHome
import Derived.Test.YtneibhcigbfigaaVwAu8
import Derived.WalkKit
import Derived.ProofKit
import Derived.OpenShut
import Derived.Deep.RegionHeld3
import Derived.Deep.RegionWith
import Derived.Deep.Cut
import Derived.Deep.CutBlock
import Derived.Deep.CutRange
import Derived.Deep.LoopGhost
import Derived.Deep.DeepCutAuto
import Derived.RegionTactic
import Derived.StillTailTactics
namespace Go.Proofs.Ytneibhcigbfigaa.auditEach
open Go.ChangeShapes Go.WideShapes Go.ChangeAt Go.WideElems Go.RowKit Go.Lib Fx Ho Vw
set_option linter.unusedVariables false

theorem own : ownKnob Try.prog.godebug = none := by kernel_rfl

set_option linter.unusedSimpArgs false
set_option maxRecDepth 100000 in
set_option maxHeartbeats 4000000 in
theorem walk (a0 : Int) (a1 : Int) (w : World) (w0 : (Lit.int .i64 a0).wf = true) (w1 : (Lit.int .i64 a1).wf = true) :
    Calls Try.prog 3 #[.int .i64 a0, .int .i64 a1] w fun e w' => e = .returned (.bool true) ∧ Below w.heap.size w w' := by
  have ct := fun w => told30_any w
  obtain ⟨Y, hY⟩ : ∃ Y : Int, IntKind.u64.wrap a0 = Y := ⟨_, rfl⟩
  have Y0 : 0 ≤ Y := by rw [← hY, IntKind.wrap_u64]; omega
  obtain ⟨k, hk⟩ : ∃ k : Int, 1 + Y % 8 = k := ⟨_, rfl⟩
  have k1 : 1 ≤ k := by omega
  have k8 : k ≤ 8 := by omega
  obtain ⟨Z, hZ⟩ : ∃ Z : Int, IntKind.u64.wrap a1 = Z := ⟨_, rfl⟩
  have Z0 : 0 ≤ Z := by rw [← hZ, IntKind.wrap_u64]; omega
  obtain ⟨n, hn⟩ : ∃ n : Int, 1 + Z % 64 = n := ⟨_, rfl⟩
  have n1 : 1 ≤ n := by omega
  obtain ⟨CC, hCC⟩ : ∃ CC, (cells (List.replicate 16 0)).toArray = CC := ⟨_, rfl⟩
  have cs := fun W => stk_any W
  rw [hCC] at cs
  obtain ⟨U, hU, hs⟩ := Es.start w
  rw [hCC] at hU
  replace hU := Lib.hid hU
  replace hs := Lib.hid hs
  go_enter Try.func3, Try.ntmps3
  go_upto_region 4 with (first | (go_at_call 12; ((refine Calls.mono (cs _) ?_); rintro ed wz ⟨rfl, rfl⟩)))
  try rw [hU.out]
  replace hs := hs.out
  clear hU hk hn hY hZ Y0 Z0
  rw [show w.heap.size + 1 + 1 + 1 + 1 + 1 + 1 + 1 = w.heap.size + 7 from rfl]
  have hcs0 := cs
  obtain ⟨B, hB⟩ : ∃ B, w.heap.size = B := ⟨_, rfl⟩
  rw [hB] at hs
  try rw [hB]
  replace hs := Lib.hid hs
  replace hB := Lib.hid hB
  replace hCC := Lib.hid hCC
  have sp0 := Lib.hid (hs.out.sp (by decide) (by decide) (by decide) (by decide))
  obtain ⟨g0, g1, g2, g3, g4, g5, g6, g7, g8⟩ := box9e sp0.out.2.2.1
  have cc := vve (ex := #[.int .i64 n]) (check_any sp0.out.2.1 sp0.out.2.2.2.1 sp0.out.2.2.2.2 n)
  rw [v0_brk n1] at cc
  simp only [List.push_toArray, List.append_toArray, List.nil_append, List.cons_append, Array.append_empty, List.headD_nil] at cc
  clear cs
  go_wp2_with fail
  with_reducible refine Calls.mono cc ?_
  rintro ed w1 ⟨rfl, hb⟩
  have hs1 := Lib.hid (hs.out.below hb)
  have sp1 := Lib.hid (sp0.out.below hb)
  clear cc hb g0 g1 g2 g3 g4 g5 g6 g7 g8 hs sp0
  obtain ⟨g0, g1, g2, g3, g4, g5, g6, g7, g8⟩ := box9e sp1.out.2.2.1
  have cc := vve (ex := #[.int .i64 n]) (all_any sp1.out.2.1 sp1.out.2.2.2.1 sp1.out.2.2.2.2 n)
  rw [v0_brk n1] at cc
  unfold NewRow at cc
  simp only [List.push_toArray, List.append_toArray, List.nil_append, List.cons_append, Array.append_empty] at cc
  go_wp2_with fail
  with_reducible refine Calls.mono cc ?_
  rintro ed w2 ⟨v, rfl, hi, hb⟩
  have hes := Lib.hid (hs1.out.below hb)
  obtain ⟨sp, cp, rfl, -⟩ := hi
  rw [show ([] : List Int).length = 0 from rfl]
  clear cc hb g0 g1 g2 g3 g4 g5 g6 g7 g8 hs1 sp1
  have hcs : Hid (∀ W, Calls Try.prog 12 #[] W fun e w' => e = .returned (.slice (some ⟨W.heap.size, 0, none⟩) 16 16) ∧ Below W.heap.size W w' ∧ w'.heap[W.heap.size]? = some (.cells (cells (List.replicate 16 0)).toArray 3 (0, 0)) ∧ (w2.heap.size ≤ W.heap.size → B + 7 < W.heap.size)) := Lib.hid fun W => (stk_any W).mono fun e w' ⟨h1, h2⟩ => ⟨h1, by rw [h2]; exact below_alloc (Below.refl _ W) _, by rw [h2]; exact heap_alloc_new W _, fun h => by have := block_lt hes.out.h8; omega⟩
  have hkk : Hid (k = 1 ∨ k = 2 ∨ k = 3 ∨ k = 4 ∨ k = 5 ∨ k = 6 ∨ k = 7 ∨ k = 8) := Lib.hid (by omega)
  obtain ⟨κ, hκ⟩ : ∃ κ : Nat, k = (κ : Int) + 1 := ⟨(k - 1).toNat, by omega⟩
  have κ8 : κ < 8 := by omega
  replace hκ := Lib.hid hκ
  clear hcs0
  go_upto_block 0 with fail
  go_cut [] (fun wx => Hid (Sp w wx B (vk κ)))
  case first =>
    obtain h | h | h | h | h | h | h | h := hkk.out
    · obtain rfl : κ = 0 := by have := hκ.out; omega
      as_aux_lemma =>
        subst h
        clear hκ
        have es1 := hes.out.sg 69
        have f1 := es1.1
        have c1 : w2.cell? ⟨B, 1, none⟩ = some (.int .i64 0) := cell_of hes.out.h1 rfl
        have g3 : w2.cell? ⟨B + 7, 3, none⟩ = some (.slice (some ⟨B, 0, none⟩) 2 2) := cell_of hes.out.h8 rfl
        replace es1 := Lib.hid es1.2
        go_wp2_with fail
        go_meet
        exact Lib.hid (es1.out.sp (by decide) (by decide) (by decide) (by decide))
    · obtain rfl : κ = 1 := by have := hκ.out; omega
      as_aux_lemma =>
        subst h
        clear hκ
        have es1 := hes.out.sa 64
        have f1 := es1.1
        have c1 : w2.cell? ⟨B + 6, 3, none⟩ = some (.int .i64 68) := cell_of hes.out.h7 rfl
        have g5 : w2.cell? ⟨B + 7, 5, none⟩ = some (.slice (some ⟨B + 6, 0, none⟩) 2 2) := cell_of hes.out.h8 rfl
        have es1 := es1.2
        have es2 := es1.ss 0
        have f2 := es2.1
        have c2 : (w2.setCell ⟨B + 6, 3, none⟩ (.int .i64 64)).cell? ⟨B + 4, 0, none⟩ = some (.int .i64 68) := cell_of es1.h5 rfl
        have g5' : (w2.setCell ⟨B + 6, 3, none⟩ (.int .i64 64)).cell? ⟨B + 7, 5, none⟩ = some (.slice (some ⟨B + 6, 0, none⟩) 2 2) := cell_of es1.h8 rfl
        have g6' : (w2.setCell ⟨B + 6, 3, none⟩ (.int .i64 64)).cell? ⟨B + 6, 1, none⟩ = some (.slice (some ⟨B + 4, 0, none⟩) 1 1) := cell_of es1.h7 rfl
        replace es2 := Lib.hid es2.2
        clear es1
        go_upto_region 12 with fail
        obtain ⟨w3, hw3⟩ : ∃ W, w2.setCell ⟨B + 6, 3, none⟩ (.int .i64 64) = W := ⟨_, rfl⟩
        rw [hw3] at c2 f2 g5' g6' es2
        try rw [hw3]
        clear hw3 c1 f1 g5
        go_wp2_with fail
        go_meet
        exact Lib.hid (es2.out.sp (by decide) (by decide) (by decide) (by decide))
    · obtain rfl : κ = 2 := by have := hκ.out; omega
      as_aux_lemma =>
        subst h
        clear hκ
        have g4 : w2.cell? ⟨B + 7, 4, none⟩ = some (.slice (some ⟨B + 3, 0, none⟩) 2 2) := cell_of hes.out.h8 rfl
        go_upto_region 14 with fail
        go_region_held3 (fun W' => W'.cell? ⟨B + 7, 4, none⟩ = some (.slice (some ⟨B + 3, 0, none⟩) 2 2)) (first | exact g4 | assumption | go_keep) (first | (go_at_call 12; ((refine Calls.mono (hcs.out _) ?_); rintro ed w5 ⟨rfl, hb5, hN, hl⟩; have es5 := Lib.hid (hes.out.below ((Below.refl _ _).drew.trans (hb5.mono (Below.refl w2.heap.size w2).drew.size))); have d3 : w5.cell? ⟨B + 3, 3, none⟩ = some (.int .i64 3) := cell_of es5.out.h4 rfl; have d4 : w5.cell? ⟨B + 3, 4, none⟩ = some (.int .i64 (-1)) := cell_of es5.out.h4 rfl; obtain ⟨N5, d5⟩ : ∃ N5, w5.cell? ⟨B + 3, 5, none⟩ = some (.slice (some ⟨N5, 0, none⟩) 16 16) := ⟨_, cell_of es5.out.h4 rfl⟩; have g4' : w5.cell? ⟨B + 7, 4, none⟩ = some (.slice (some ⟨B + 3, 0, none⟩) 2 2) := cell_of es5.out.h8 rfl; have k3 := frozen_of_row w5 (B + 3) 3 _ _ es5.out.h4; have k4 := frozen_of_row w5 (B + 3) 4 _ _ es5.out.h4; have k5 := frozen_of_row w5 (B + 3) 5 _ _ es5.out.h4; replace hN := Lib.hid hN; replace hl := Lib.hid (hl (Nat.le_refl _)); clear hb5)))
        all_goals
          go_wp2_with fail
          go_meet
          exact Lib.hid (Es.sp (Es.sg3 ((es5.out.sst 2).2.sP 0).2 (by rw [Below.heap_setCell _ _ _ _ (by have := hl.out; show w2.drew.heap.size ≠ B + 3; omega), Below.heap_setCell _ _ _ _ (by have := hl.out; show w2.drew.heap.size ≠ B + 3; omega)]; exact hN.out) hl.out).2 (by decide) (by decide) (by decide) (by decide))
    · obtain rfl : κ = 3 := by have := hκ.out; omega
      as_aux_lemma =>
        subst h
        clear hκ
        have es1 := hes.out.sP 0
        have f1 := es1.1
        have c1 : w2.cell? ⟨B + 3, 4, none⟩ = some (.int .i64 (-1)) := cell_of hes.out.h4 rfl
        have g4 : w2.cell? ⟨B + 7, 4, none⟩ = some (.slice (some ⟨B + 3, 0, none⟩) 2 2) := cell_of hes.out.h8 rfl
        replace es1 := Lib.hid es1.2
        go_wp2_with fail
        go_meet
        exact Lib.hid (es1.out.sp (by decide) (by decide) (by decide) (by decide))
    · obtain rfl : κ = 4 := by have := hκ.out; omega
      as_aux_lemma =>
        subst h
        clear hκ
        have es1 := hes.out.snt 1
        have f1 := es1.1
        have c1 : w2.cell? ⟨B + 7, 7, none⟩ = some (.int .i64 0) := cell_of hes.out.h8 rfl
        replace es1 := Lib.hid es1.2
        go_wp2_with fail
        go_meet
        exact Lib.hid (es1.out.sp (by decide) (by decide) (by decide) (by decide))
    · obtain rfl : κ = 5 := by have := hκ.out; omega
      as_aux_lemma =>
        subst h
        clear hκ
        have es1 := hes.out.sph 2
        have f1 := es1.1
        have c1 : w2.cell? ⟨B + 7, 0, none⟩ = some (.int .i64 0) := cell_of hes.out.h8 rfl
        have es1 := es1.2
        have es2 := es1.sm0 true
        have f2 := es2.1
        have c2 : (w2.setCell ⟨B + 7, 0, none⟩ (.int .i64 2)).cell? ⟨B + 6, 2, none⟩ = some (.bool false) := cell_of es1.h7 rfl
        have g5' : (w2.setCell ⟨B + 7, 0, none⟩ (.int .i64 2)).cell? ⟨B + 7, 5, none⟩ = some (.slice (some ⟨B + 6, 0, none⟩) 2 2) := cell_of es1.h8 rfl
        replace es2 := Lib.hid es2.2
        clear es1
        go_upto_region 21 with fail
        obtain ⟨w3, hw3⟩ : ∃ W, w2.setCell ⟨B + 7, 0, none⟩ (.int .i64 2) = W := ⟨_, rfl⟩
        rw [hw3] at c2 f2 g5' es2
        try rw [hw3]
        clear hw3 c1 f1
        go_wp2_with fail
        go_meet
        exact Lib.hid (es2.out.sp (by decide) (by decide) (by decide) (by decide))
    · obtain rfl : κ = 6 := by have := hκ.out; omega
      as_aux_lemma =>
        subst h
        clear hκ
        have es1 := (hes.out.below (Below.refl _ _).drew).sn0
        have f1 : w2.frozen? ⟨B + 3, 2, none⟩ = false := frozen_of_row _ _ _ _ _ hes.out.h4
        have c1 : w2.cell? ⟨B + 3, 2, none⟩ = some (.slice (some ⟨B + 1, 0, none⟩) 16 16) := cell_of hes.out.h4 rfl
        have g4 : w2.cell? ⟨B + 7, 4, none⟩ = some (.slice (some ⟨B + 3, 0, none⟩) 2 2) := cell_of hes.out.h8 rfl
        have es2 := Lib.hid (hes.out.sn0.2.below (Below.refl _ _).drew)
        replace es1 := Lib.hid es1.2
        go_upto_region 23 with fail
        go_region
        all_goals
          go_wp2_with fail
          go_meet
          first | exact Lib.hid (es1.out.sp (by decide) (by decide) (by decide) (by decide)) | exact Lib.hid (es2.out.sp (by decide) (by decide) (by decide) (by decide))
    · obtain rfl : κ = 7 := by have := hκ.out; omega
      as_aux_lemma =>
        subst h
        clear hκ
        have es1 := hes.out.sm1 true
        have f1 := es1.1
        have c1 : w2.cell? ⟨B + 6, 5, none⟩ = some (.bool false) := cell_of hes.out.h7 rfl
        have g5 : w2.cell? ⟨B + 7, 5, none⟩ = some (.slice (some ⟨B + 6, 0, none⟩) 2 2) := cell_of hes.out.h8 rfl
        replace es1 := Lib.hid es1.2
        go_wp2_with fail
        go_meet
        exact Lib.hid (es1.out.sp (by decide) (by decide) (by decide) (by decide))
  case rest =>
    have hsp := hcut
    clear hcut hes hcs
    obtain ⟨g0, g1, g2, g3, g4, g5, g6, g7, g8⟩ := hsp.out.2.2.1
    have cc := all_any hsp.out.2.1 hsp.out.2.2.2.1 hsp.out.2.2.2.2 n
    rw [vk_brk n1 κ κ8] at cc
    unfold NewRow vv at cc
    go_wp2_with fail
    with_reducible refine Calls.mono cc ?_
    rintro ed w5 ⟨v, rfl, hi, hb⟩
    have hsp5 := Lib.hid (hsp.out.below hb)
    obtain ⟨sp, cp, rfl, _, hel⟩ := hi
    obtain ⟨b5, o5, rfl, _, _, e5⟩ := hel 0 (by show 0 < 1; omega)
    rw [show [(κ : Int) + 1].getD 0 0 = k from hκ.out.symm, Nat.add_zero] at e5
    rw [show [(κ : Int) + 1].length = 1 from rfl]
    clear cc g0 g1 g2 g3 g4 g5 g6 g7 g8 hel hsp
    have hwd := wrd_at w5
    have e6 := cell_then (below_alloc (Below.refl _ w5) (.cells #[.string ⟨#[108, 111, 115, 116]⟩, .string ⟨#[111, 98, 106, 101, 99, 116, 115]⟩, .string ⟨#[116, 119, 105, 99, 101]⟩, .string ⟨#[112, 108, 97, 99, 101, 115]⟩, .string ⟨#[119, 111, 114, 107]⟩, .string ⟨#[119, 104, 105, 116, 101]⟩, .string ⟨#[110, 117, 109, 98, 101, 114, 115]⟩, .string ⟨#[109, 97, 114, 107, 101, 100]⟩] 9)) e5
    have hsp6 := Lib.hid (hsp5.out.below (below_alloc (Below.refl _ w5) (.cells #[.string ⟨#[108, 111, 115, 116]⟩, .string ⟨#[111, 98, 106, 101, 99, 116, 115]⟩, .string ⟨#[116, 119, 105, 99, 101]⟩, .string ⟨#[112, 108, 97, 99, 101, 115]⟩, .string ⟨#[119, 111, 114, 107]⟩, .string ⟨#[119, 104, 105, 116, 101]⟩, .string ⟨#[110, 117, 109, 98, 101, 114, 115]⟩, .string ⟨#[109, 97, 114, 107, 101, 100]⟩] 9)))
    obtain ⟨w6, hw6⟩ : ∃ W, w5.alloc (.cells #[.string ⟨#[108, 111, 115, 116]⟩, .string ⟨#[111, 98, 106, 101, 99, 116, 115]⟩, .string ⟨#[116, 119, 105, 99, 101]⟩, .string ⟨#[112, 108, 97, 99, 101, 115]⟩, .string ⟨#[119, 111, 114, 107]⟩, .string ⟨#[119, 104, 105, 116, 101]⟩, .string ⟨#[110, 117, 109, 98, 101, 114, 115]⟩, .string ⟨#[109, 97, 114, 107, 101, 100]⟩] 9) = W := ⟨_, rfl⟩
    rw [hw6] at hwd e6 hsp6
    have hwd := hwd κ κ8
    have z6 : k - 1 = (κ : Int) := by have := hκ.out; omega
    have z4 : IntKind.i64.wrap (k - 1) = (κ : Int) := by rw [IntKind.wrap_i64]; have := hκ.out; omega
    have z7 : IntKind.i64.wrap (κ : Int) = (κ : Int) := by rw [IntKind.wrap_i64]; omega
    have κ0 : (0 : Int) ≤ (κ : Int) := by omega
    have κ9 : (κ : Int) < 8 := by omega
    obtain ⟨tx, htx⟩ : ∃ tx, ruT κ = tx := ⟨_, rfl⟩
    rw [htx] at hwd
    clear hsp5 e5
    go_upto_region 26 with fail
    try rw [hw6]
    clear hw6 hwd
    have ct := ct w6
    go_wp2_with fail
    with_reducible refine Calls.mono ct ?_
    rintro ed w7 ⟨rfl, hb⟩
    have hsp7 := Lib.hid (hsp6.out.below hb)
    have e7 := cell_then hb e6
    clear ct hb hsp6 e6
    obtain ⟨g0, g1, g2, g3, g4, g5, g6, g7, g8⟩ := hsp7.out.2.2.1
    have cc := check_any hsp7.out.2.1 hsp7.out.2.2.2.1 hsp7.out.2.2.2.2 n
    rw [vk_brk n1 κ κ8, show [(κ : Int) + 1].headD 0 = k from hκ.out.symm] at cc
    unfold vv at cc
    have hkb : (k == k) = true := beq_self_eq_true k
    go_wp2_with fail
    with_reducible refine Calls.mono cc ?_
    rintro ed w8 ⟨rfl, hb⟩
    have hsp8 := Lib.hid (hsp7.out.below hb)
    have cx := text_any k w8
    rw [show txtR k = tx from by rw [← htx]; unfold txtR; rw [if_pos ⟨k1, k8⟩]; congr 1; have := hκ.out; omega] at cx
    clear cc hb hsp7 e7 g0 g1 g2 g3 g4 g5 g6 g7 g8
    have htb : (tx == tx) = true := by first | exact beq_self_eq_true tx | (show (tx.data == tx.data) = true; exact beq_self_eq_true _) | exact decide_eq_true rfl
    go_wp2_with fail
    with_reducible refine Calls.mono cx ?_
    rintro ed w9 ⟨rfl, hb⟩
    have hfin := Lib.hid (hsp8.out.below hb).1
    clear cx hb hsp8
    go_wp2_with fail
    go_ret
    exact ⟨rfl, hfin.out⟩

set_option maxRecDepth 100000 in
theorem lifted (os : Os) (started : os.Started) (H : Type) (enc : TypeId × Value → H) :
    ReturnsInHanded {} Try.checked os 3 .any (Rows.auditEachSpec.pre6 enc Try.prog Try.f3 Rows.auditEachRow.domain false) (Rows.auditEachSpec.post enc Try.prog Try.f3 false true false false) := by
  refine returnsInHanded_of_change (C := Try.checked) own started (by kernel_rfl) Try.func3
    (ChangeSpec.witness6 (enc := enc) (C := Try.checked) false ⟨#[], #[.int .i64 0, .int .i64 0], []⟩ 8 (by kernel_rfl) (by kernel_rfl) (by kernel_rfl) (by kernel_rfl)) ?_
  intro W base args ds gs before hval0 hW hcnd _
  have hval : ∀ (j : Nat) t v, Try.f3.params[j]? = some t → args[j]? = some v → Value.okWide Try.prog W .any base t v := hval0
  have hW' := hW
  obtain ⟨p, q, hA0, hV, rfl, hfz, hnd⟩ := hW
  have hA : DataW.TrodAll enc Try.prog W 0 (fun _ => true) true Try.f3.params.toList args.toList ds p := hA0
  rw [Try.params3] at hA hval
  obtain ⟨v0, vs0, d0, ds0, p0, q0, hargs, rfl, rfl, h0, r0⟩ := trodAll_cons hA
  obtain ⟨v1, vs1, d1, ds1, p1, q1, rfl, rfl, rfl, h1, r1⟩ := trodAll_cons r0
  obtain ⟨rfl, rfl, rfl⟩ := trodAll_nil r1
  obtain rfl : args = #[v0, v1] := by cases args; simp_all
  obtain ⟨rfl, rfl⟩ := trodVars_none hV
  obtain ⟨a0, rfl, rfl, rfl, w0⟩ := open_int Try.underlying3 (hval 0 3 v0 rfl rfl) h0
  obtain ⟨a1, rfl, rfl, rfl, w1⟩ := open_int Try.underlying3 (hval 1 3 v1 rfl rfl) h1
  clear hA0 hval0
  simp only [List.append_nil] at hW'
  refine (walk a0 a1 W w0 w1).mono fun e W' ⟨he, hg⟩ => ?_
  subst he
  exact ⟨_, rfl, post_of_kept (pa := _) (pv := []) hW' (fun _ _ _ => (trodAll_cons_mk (shut_bool Try.underlying4 _) trodAll_mk0)) (trodAll_cons_mk (shut_int Try.underlying3 w0) (trodAll_cons_mk (shut_int Try.underlying3 w1) trodAll_mk0)) (fun _ _ => rfl) (by simp) hg⟩

theorem over : Rows.auditEachRow.holds Try.pinned (OpenSpec.ofChange Rows.auditEachSpec) :=
  OpenClaim.holds_of_wide 3 Try.f3 rfl rfl rfl rfl rfl rfl rfl ⟨rfl, rfl, rfl, rfl, rfl⟩ rfl rfl rfl rfl rfl (by kernel_rfl) Try.func3 (by kernel_rfl)
    (of_decide_eq_true (by kernel_rfl)) (by unfold Func.isWrapper; first | (rw [if_pos (by decide +kernel)]; kernel_rfl) | (rw [if_neg (by decide +kernel)]; exact ⟨rfl, rfl⟩))
    (fun os started H enc _ => lifted os started H enc)

theorem proved : Rows.AuditEachSaid :=
  over
#print axioms proved
end Go.Proofs.Ytneibhcigbfigaa.auditEach
