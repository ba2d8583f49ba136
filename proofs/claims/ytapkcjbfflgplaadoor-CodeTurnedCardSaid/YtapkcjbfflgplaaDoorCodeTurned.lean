/- Scripts of programs that may be, with one byte turned, left out or put in, are told as the document says (15.2): any program, any place, any byte. No further condition but the listed table. -/
import Derived.Test.YtapkcjbfflgplaaDoorHome
import Derived.Test.YtapkcjbfflgplaaDoorDecBoth
import Derived.Test.YtapkcjbfflgplaaDoorStr
import Derived.Test.YtapkcjbfflgplaaDoorSame
import Derived.Test.YtapkcjbfflgplaaDoorGreat
import Derived.Test.YtapkcjbfflgplaaDoorREncode
import Derived.Test.YtapkcjbfflgplaaDoorEncDec
import Derived.Test.YtapkcjbfflgplaaDoorProgArg
import Derived.WalkKit
import Derived.ProofKit
import Derived.OpenShut
import Derived.Test.YtapkcjbfflgplaaDoorTie
import Derived.Test.YtapkcjbfflgplaaDoorCards
import Derived.LaidMore
import Derived.Stop.Joined
import Derived.SevenTiedAt
import Derived.Deep.RegionHeld3
import Derived.Deep.RegionWith
import Derived.Deep.Cut
import Derived.Deep.CutBlock
import Derived.Deep.CutRange
import Derived.Deep.LoopGhost
import Derived.Deep.DeepCutAuto
import Derived.RegionTactic
import Derived.StillTailTactics
import Derived.Deep.RegionLaw
namespace Go.Proofs.YtapkcjbfflgplaaDoor.codeTurned
open Go.ChangeShapes Go.WideShapes Go.ChangeAt Go.WideElems Go.RowKit Go.Lib Fx Ho Gr Cd
set_option linter.unusedVariables false

theorem own : ownKnob Tryd.prog.godebug = none := by kernel_rfl

/-- The five turned scripts. -/
def tl (E : List Int) (k : Nat) (c : Int) (h : Nat) : List Int := if h = 0 then (E.take k ++ [c]) ++ E.drop (k + 1) else if h = 1 then E.take k ++ E.drop (k + 1) else if h = 2 then (E.take k ++ [c]) ++ E.drop k else if h = 3 then E.take k else E ++ [c]
theorem tl_byt {E : List Int} (hE : Byt E) (k : Nat) {c : Int} (hc : 0 ≤ c ∧ c < 256) (h : Nat) : Byt (tl E k c h) := by
  unfold tl
  split
  · exact ((hE.take k).app (Byt.one hc)).app (hE.drop _)
  split
  · exact (hE.take k).app (hE.drop _)
  split
  · exact ((hE.take k).app (Byt.one hc)).app (hE.drop _)
  split
  · exact hE.take k
  · exact hE.app (Byt.one hc)
theorem tl_len (E : List Int) (k : Nat) (c : Int) (h : Nat) : (tl E k c h).length ≤ 2 * E.length + 1 := by
  unfold tl
  have h1 := List.length_take (i := k) (l := E)
  have h2 := List.length_drop (i := k + 1) (l := E)
  have h3 := List.length_drop (i := k) (l := E)
  have h4 : [c].length = 1 := rfl
  split
  · rw [List.length_append, List.length_append]; omega
  split
  · rw [List.length_append]; omega
  split
  · rw [List.length_append, List.length_append]; omega
  split
  · omega
  · rw [List.length_append]; omega
set_option maxRecDepth 100000 in
set_option maxHeartbeats 4000000 in
theorem walk (g0 : Int) (v0 : Value) (fs0 : List (List Ins)) (a1 : Int) (a2 : Int) (a3 : Int) (w : World) (hT : Tk w) (h0 : FRow w v0 fs0) (w1 : (Lit.int .i64 a1).wf = true) (w2 : (Lit.int .u8 a2).wf = true) (w3 : (Lit.int .i64 a3).wf = true) :
    Calls Tryd.prog 13 #[.agg #[.int .i64 g0, v0], .int .i64 a1, .int .u8 a2, .int .i64 a3] w fun e w' => e = .returned (.bool true) ∧ Below w.heap.size w w' := by
  have hcc := wf_u8 w2
  clear w1 w2 w3
  obtain ⟨Y, hY⟩ : ∃ Y : Int, IntKind.u64.wrap a1 = Y := ⟨_, rfl⟩
  have hY0 : 0 ≤ Y := by rw [← hY, IntKind.wrap_u64]; omega
  have hY9 : Y < 18446744073709551616 := by rw [← hY, IntKind.wrap_u64]; omega
  obtain ⟨Z, hZ⟩ : ∃ Z : Int, IntKind.u64.wrap a3 = Z := ⟨_, rfl⟩
  have hZ0 : 0 ≤ Z := by rw [← hZ, IntKind.wrap_u64]; omega
  have hZ9 : Z < 18446744073709551616 := by rw [← hZ, IntKind.wrap_u64]; omega
  obtain ⟨sp, cap, rfl, -⟩ := h0.fix
  have hbU : Hid (Below w.heap.size w (w.alloc (.cells #[.int .i64 g0, .slice sp fs0.length cap] 49))) := Lib.hid (below_alloc (Below.refl _ _) _)
  have hC := heap_alloc_new w (.cells #[.int .i64 g0, .slice sp fs0.length cap] 49)
  have c0 : (w.alloc (.cells #[.int .i64 g0, .slice sp fs0.length cap] 49)).cell? ⟨w.heap.size, 0, none⟩ = some (.int .i64 g0) := cell_of hC rfl
  have c1 : (w.alloc (.cells #[.int .i64 g0, .slice sp fs0.length cap] 49)).cell? ⟨w.heap.size, 1, none⟩ = some (.slice sp fs0.length cap) := cell_of hC rfl
  have cg := great_any (h0.below hbU.out) g0
  have hall : Hid (∀ V, Below w.heap.size w V → Tk V ∧ FRow V (.slice sp fs0.length cap) fs0) := Lib.hid fun V hV => ⟨hT.below hV, h0.below hV⟩
  clear h0 hT
  obtain ⟨N, hN⟩ : ∃ N, w.heap.size = N := ⟨_, rfl⟩
  rw [hN] at c0 c1
  generalize fs0.length = m at *
  go_enter Tryd.func13, Tryd.ntmps13
  go_wp2_with fail
  obtain ⟨U, hU⟩ : ∃ U, w.alloc (.cells #[.int .i64 g0, .slice sp m cap] 49) = U := ⟨_, rfl⟩
  rw [hU] at hbU c0 c1 cg ⊢
  clear hU hC
  with_reducible refine Calls.mono cg ?_
  rintro e w1 ⟨rfl | rfl, hb1⟩
  · have hbw := Lib.hid (hbU.out.trans (hb1.mono hbU.out.size))
    have ct := told_any (hall.out w1 hbw.out).1
    clear cg hall c0 c1 hb1 hbU
    go_wp2_with fail
    with_reducible refine Calls.mono ct ?_
    rintro e w2 ⟨rfl, hb2⟩
    have hfin := hbw.out.trans (hb2.mono hbw.out.size)
    clear ct hb2 hbw
    go_wp2_with fail
    go_ret
    exact ⟨rfl, hfin⟩
  · have hbw := Lib.hid (hbU.out.trans (hb1.mono hbU.out.size))
    have crf := refencode_any (hall.out w1 hbw.out).2 g0
    have c0 := cell_then hb1 c0
    have c1 := cell_then hb1 c1
    clear cg hb1 hbU
    go_wp2_with fail
    with_reducible refine Calls.mono crf ?_
    rintro e w2 ⟨hb2, hE⟩
    have hbw2 := Lib.hid (hbw.out.trans (hb2.mono hbw.out.size))
    clear crf c0 c1 hbw hb2
    rcases hE with ⟨hm, rfl⟩ | ⟨r, hm, hr, rfl⟩
    case inr =>
      have ct := told_any (hall.out w2 hbw2.out).1
      clear hm hall
      go_wp2_with fail
      with_reducible refine Calls.mono ct ?_
      rintro e w3 ⟨rfl, hb3⟩
      have hfin := hbw2.out.trans (hb3.mono hbw2.out.size)
      clear ct hb3 hbw2
      go_wp2_with fail
      go_ret
      exact ⟨rfl, hfin⟩
    case inl =>
      obtain ⟨L7, L5⟩ := enc_seven hm
      have hzz : Byt (enc g0 fs0) := enc_bytes hm
      generalize hEn : enc g0 fs0 = E at *
      clear hEn hm
      obtain ⟨n, hn⟩ : ∃ n, E.length = n := ⟨_, rfl⟩
      have hsz : (byts E).size = n := by rw [byts_size]; exact hn
      rw [hn] at L7 L5
      have wn : IntKind.u64.wrap (n : Int) = (n : Int) := by rw [IntKind.wrap_u64]; omega
      have n0 : (0 : Int) < (n : Int) := by omega
      have n1 : ¬ (n : Int) = 0 := by omega
      have n2 : ((n : Int) == 0) = false := beq_eq_false_iff_ne.2 n1
      have hk0 := Int.emod_nonneg Y n1
      have hk1 := Int.emod_lt_of_pos Y n0
      obtain ⟨k, hk⟩ : ∃ k : Nat, Y % (n : Int) = (k : Int) := ⟨(Y % (n : Int)).toNat, by omega⟩
      rw [hk] at hk0 hk1
      have kn : k < n := by omega
      have hj0 := Int.emod_nonneg Z (show (5 : Int) ≠ 0 by decide)
      have hj1 := Int.emod_lt_of_pos Z (show (0 : Int) < 5 by decide)
      obtain ⟨j, hj⟩ : ∃ j : Nat, Z % 5 = (j : Int) := ⟨(Z % 5).toNat, by omega⟩
      rw [hj] at hj0 hj1
      have j5 : j < 5 := by omega
      have wk : IntKind.i64.wrap ((k : Int) + 1) = ((k + 1 : Nat) : Int) := by rw [IntKind.wrap_i64]; omega
      have s1 : ∀ W, (Instr.slice 9 (.string (byts E)) none (some (.int .i64 (k : Int))) none).run Tryd.prog W = .ok (.string (byts (E.take k))) W := fun W => low_run E (by omega) W
      have s2 : ∀ W, (Instr.slice 9 (.string (byts E)) (some (.int .i64 ((k : Int) + 1))) none none).run Tryd.prog W = .ok (.string (byts (E.drop (k + 1)))) W := fun W => high_run E (k := k + 1) (by omega) W
      have s3 : ∀ W, (Instr.slice 9 (.string (byts E)) (some (.int .i64 (k : Int))) none none).run Tryd.prog W = .ok (.string (byts (E.drop k))) W := fun W => high_run E (k := k) (by omega) W
      have s4 : ∀ (W : World) (K : Nat), W.cell? ⟨K, 0, none⟩ = some (.int .u8 a2) → (convert 62 9 (.slice (some ⟨K, 0, none⟩) 1 1)).run Tryd.prog W = .ok (.string (byts [a2])) W := fun W K h => conv_one hcc W K h
      have lt1 : (E.take k).length ≤ 100000 := by rw [List.length_take]; omega
      have lt2 : (E.drop (k + 1)).length ≤ 100000 := by rw [List.length_drop]; omega
      have lt3 : (E.drop k).length ≤ 100000 := by rw [List.length_drop]; omega
      have lt4 : (E.take k ++ [a2]).length ≤ 100000 := by rw [List.length_append, List.length_take, List.length_singleton]; omega
      have p1 : byts (E.take k) ++ byts [a2] = byts (E.take k ++ [a2]) := byts_app _ _
      have p2 : byts (E.take k ++ [a2]) ++ byts (E.drop (k + 1)) = byts (tl E k a2 0) := byts_app _ _
      have p3 : byts (E.take k) ++ byts (E.drop (k + 1)) = byts (tl E k a2 1) := byts_app _ _
      have p4 : byts (E.take k ++ [a2]) ++ byts (E.drop k) = byts (tl E k a2 2) := byts_app _ _
      have p5 : byts E ++ byts [a2] = byts (tl E k a2 4) := byts_app _ _
      have z1 : (byts (E.take k)).size = k := by rw [byts_size, List.length_take]; omega
      have z2 : (byts (E.drop (k + 1))).size = n - (k + 1) := by rw [byts_size, List.length_drop]; omega
      have z3 : (byts (E.drop k)).size = n - k := by rw [byts_size, List.length_drop]; omega
      have z4 : (byts [a2]).size = 1 := by rw [byts_size]; rfl
      have z5 : (byts (E.take k ++ [a2])).size = k + 1 := by rw [byts_size, List.length_append, List.length_take, List.length_singleton]; omega
      have q1 : ¬ 9223372036854775807 < k + 1 := by omega
      have q2 : ¬ 9223372036854775807 < k + 1 + (n - (k + 1)) := by omega
      have q3 : ¬ 9223372036854775807 < k + (n - (k + 1)) := by omega
      have q4 : ¬ 9223372036854775807 < k + 1 + (n - k) := by omega
      have q5 : ¬ 9223372036854775807 < n + 1 := by omega
      have e3 : byts (E.take k) = byts (tl E k a2 3) := rfl
      have hT2 : Hid (Byt (tl E k a2 j) ∧ (tl E k a2 j).length ≤ 10001) := Lib.hid ⟨tl_byt hzz k hcc j, by have := tl_len E k a2 j; omega⟩
      have hcs : Hid (∀ T0 T1 T2 T3 T4 : ByteArray, T0 = byts (tl E k a2 0) → T1 = byts (tl E k a2 1) → T2 = byts (tl E k a2 2) → T3 = byts (tl E k a2 3) → T4 = byts (tl E k a2 4) → (#[.string T0, .string T1, .string T2, .string T3, .string T4] : Array Value)[j]? = some (.string (byts (tl E k a2 j)))) := Lib.hid (by
        rintro _ _ _ _ _ rfl rfl rfl rfl rfl
        rcases (show j = 0 ∨ j = 1 ∨ j = 2 ∨ j = 3 ∨ j = 4 by omega) with rfl | rfl | rfl | rfl | rfl <;> rfl)
      have hzz2 := Lib.hid hzz
      clear hzz lt1 lt2 lt3 lt4 hk1
      obtain ⟨S0, hS0⟩ : ∃ S, byts E = S := ⟨_, rfl⟩
      obtain ⟨S1, hS1⟩ : ∃ S, byts (E.take k) = S := ⟨_, rfl⟩
      obtain ⟨S2, hS2⟩ : ∃ S, byts (E.drop (k + 1)) = S := ⟨_, rfl⟩
      obtain ⟨S3, hS3⟩ : ∃ S, byts (E.drop k) = S := ⟨_, rfl⟩
      obtain ⟨S4, hS4⟩ : ∃ S, byts [a2] = S := ⟨_, rfl⟩
      obtain ⟨S5, hS5⟩ : ∃ S, byts (E.take k ++ [a2]) = S := ⟨_, rfl⟩
      obtain ⟨T0, hT0⟩ : ∃ S, byts (tl E k a2 0) = S := ⟨_, rfl⟩
      obtain ⟨T1, hT1⟩ : ∃ S, byts (tl E k a2 1) = S := ⟨_, rfl⟩
      obtain ⟨T2, hT2'⟩ : ∃ S, byts (tl E k a2 2) = S := ⟨_, rfl⟩
      obtain ⟨T4, hT4⟩ : ∃ S, byts (tl E k a2 4) = S := ⟨_, rfl⟩
      have hcs := Lib.hid (hcs.out T0 T1 T2 S1 T4 hT0.symm hT1.symm hT2'.symm (by rw [← hS1]; rfl) hT4.symm)
      rw [hS0] at s1 s2 s3 p5 hsz ⊢
      rw [hS1] at s1 p1 p3 z1
      rw [hS2] at s2 p2 p3 z2
      rw [hS3] at s3 p4 z3
      rw [hS4] at s4 p1 p5 z4
      rw [hS5] at p1 p2 p4 z5
      rw [hT0] at p2
      rw [hT1] at p3
      rw [hT2'] at p4
      rw [hT4] at p5
      clear hS0 hS1 hS2 hS3 hS4 hS5 hT0 hT1 hT2' hT4 e3 hn hzz2
      have tj : Z.tmod 5 = (j : Int) := by rw [← hj]; exact Int.tmod_eq_emod_of_nonneg hZ0
      have wj : IntKind.i64.wrap (j : Int) = (j : Int) := by rw [IntKind.wrap_i64]; omega
      go_upto_region 7 with fail
      obtain ⟨Tj, hTj⟩ : ∃ L, tl E k a2 j = L := ⟨_, rfl⟩
      rw [hTj] at hT2 hcs
      clear hTj
      go_cut [12] from 37 to 82 (fun s12 wx => s12 = .string (byts Tj) ∧ Hid (Below w2.heap.size w2 wx))
      case first =>
        have z0 : ∀ (V : World) (o : Obj), (V.alloc o).heap.size = V.heap.size + 1 := fun V o => by show (V.heap.push _).size = _; rw [Array.size_push]
        have b0 := heap_alloc_new w2 (.cells #[.int .u8 a2] 5)
        have b1 := heap_alloc_new (w2.alloc (.cells #[.int .u8 a2] 5)) (.cells #[.int .u8 a2] 5)
        rw [z0] at b1
        have b10 := ((below_alloc (Below.refl _ (w2.alloc (.cells #[.int .u8 a2] 5))) (.cells #[.int .u8 a2] 5)).block _ (block_lt b0)).trans b0
        have c20 : ((w2.alloc (.cells #[.int .u8 a2] 5)).alloc (.cells #[.int .u8 a2] 5)).cell? ⟨w2.heap.size, 0, none⟩ = some (.int .u8 a2) := cell_of b10 rfl
        have c30 : (((w2.alloc (.cells #[.int .u8 a2] 5)).alloc (.cells #[.int .u8 a2] 5)).alloc (.cells #[.int .u8 a2] 5)).cell? ⟨w2.heap.size, 0, none⟩ = some (.int .u8 a2) := cell_of (((below_alloc (Below.refl _ ((w2.alloc (.cells #[.int .u8 a2] 5)).alloc (.cells #[.int .u8 a2] 5))) (.cells #[.int .u8 a2] 5)).block _ (block_lt b10)).trans b10) rfl
        have c31 : (((w2.alloc (.cells #[.int .u8 a2] 5)).alloc (.cells #[.int .u8 a2] 5)).alloc (.cells #[.int .u8 a2] 5)).cell? ⟨w2.heap.size + 1, 0, none⟩ = some (.int .u8 a2) := cell_of (((below_alloc (Below.refl _ ((w2.alloc (.cells #[.int .u8 a2] 5)).alloc (.cells #[.int .u8 a2] 5))) (.cells #[.int .u8 a2] 5)).block _ (block_lt b1)).trans b1) rfl
        have bT := heap_alloc_new (((w2.alloc (.cells #[.int .u8 a2] 5)).alloc (.cells #[.int .u8 a2] 5)).alloc (.cells #[.int .u8 a2] 5)) (.cells #[.string T0, .string T1, .string T2, .string S1, .string T4] 9)
        rw [z0, z0, z0] at bT
        have cT : ((((w2.alloc (.cells #[.int .u8 a2] 5)).alloc (.cells #[.int .u8 a2] 5)).alloc (.cells #[.int .u8 a2] 5)).alloc (.cells #[.string T0, .string T1, .string T2, .string S1, .string T4] 9)).cell? ⟨w2.heap.size + 1 + 1 + 1, j, none⟩ = some (.string (byts Tj)) := cell_of bT hcs.out
        have hfin : Hid (Below w2.heap.size w2 ((((w2.alloc (.cells #[.int .u8 a2] 5)).alloc (.cells #[.int .u8 a2] 5)).alloc (.cells #[.int .u8 a2] 5)).alloc (.cells #[.string T0, .string T1, .string T2, .string S1, .string T4] 9))) := Lib.hid (below_alloc (below_alloc (below_alloc (below_alloc (Below.refl _ _) _) _) _) _)
        clear z0 b0 b1 b10 bT
        go_region
        all_goals
          go_wp2_with fail
          go_meet
          exact ⟨rfl, Lib.hid hfin.out.drew⟩
      case rest =>
        obtain ⟨rfl, hbc⟩ := hcut
        clear s1 s2 s3 s4 p1 p2 p3 p4 p5 z1 z2 z3 z4 z5 q1 q2 q3 q4 q5 hcs hsz hk hk0 hj hj0 hj1 tj wj wk wn n0 n1 n2 hY hY0 hY9 hZ hZ0 hZ9
        obtain ⟨hB, hL⟩ := hT2.out
        obtain ⟨p1, cp1, V1, hcv, hbr, hbv⟩ := conv_bytes wc Tj hB (by omega)
        have hbw := Lib.hid (hbw2.out.trans ((hbc.out.trans (hbv.mono hbc.out.size)).mono hbw2.out.size))
        have cd := decode_any (hall.out V1 hbw.out).1 hbr
        replace hT2 := Lib.hid hT2.out
        clear hbr hB hbw2 hbc
        go_wp2_with fail
        with_reducible refine Calls.mono cd ?_
        intro e w3 hE
        obtain ⟨G, fs, r1, e1, er, at_, rfl, hR, hF, hb3⟩ := hE.res
        clear cd hE hcv
        obtain ⟨mm, hm⟩ : ∃ mm, fs.length = mm := ⟨_, rfl⟩
        rw [hm] at hF ⊢
        have hbA := below_alloc hb3 (.cells #[.int .i64 G, .slice r1 mm e1] 49)
        have kA := heap_alloc_new w3 (.cells #[.int .i64 G, .slice r1 mm e1] 49)
        obtain ⟨p2, cp2, V2, hcv2, hbr2, hbv2⟩ := conv_bytes (w3.alloc (.cells #[.int .i64 G, .slice r1 mm e1] 49)) Tj hT2.out.1 (by have := hT2.out.2; omega)
        have a0 := cell_then hbv2 (cell_of kA (j := 0) rfl)
        have a1 := cell_then hbv2 (cell_of kA (j := 1) rfl)
        have hFA := (hF.below (below_alloc (Below.refl _ _) (.cells #[.int .i64 G, .slice r1 mm e1] 49))).below hbv2
        have hbw3 := hbw.out.trans ((hbA.trans (hbv2.mono hbA.size)).mono hbw.out.size)
        have cr := refdecode_any hbr2 (by have := hT2.out.2; omega)
        replace hR := Lib.hid hR
        replace hFA := Lib.hid hFA
        replace hbw3 := Lib.hid hbw3
        replace hm := Lib.hid hm
        clear hF kA hb3 hbA hbr2 hbv2 hbw hbv
        obtain ⟨NA, hNA⟩ : ∃ NA, w3.heap.size = NA := ⟨_, rfl⟩
        rw [hNA] at a0 a1
        go_wp2_with fail
        with_reducible refine Calls.mono cr ?_
        intro e w4 hE
        obtain ⟨G2, fs2, s2, c2, er2, at2, rfl, hR2, hF2, hb4⟩ := hE.res
        obtain ⟨rfl, rfl, rfl, rfl⟩ := hR.out.one hR2
        rw [hm.out] at hF2 ⊢
        clear cr hE hR hR2 hcv2
        have hbB := below_alloc hb4 (.cells #[.int .i64 G2, .slice s2 mm c2] 49)
        have kB := heap_alloc_new w4 (.cells #[.int .i64 G2, .slice s2 mm c2] 49)
        have b0 := cell_of kB (j := 0) rfl
        have b1 := cell_of kB (j := 1) rfl
        have a0 := cell_then hbB a0
        have a1 := cell_then hbB a1
        have hFB := Lib.hid (hF2.below (below_alloc (Below.refl _ _) (.cells #[.int .i64 G2, .slice s2 mm c2] 49)))
        have hFA := Lib.hid (hFA.out.below hbB)
        have hbw := Lib.hid (hbw3.out.trans (hbB.mono hbw3.out.size))
        have ct := told_any (hall.out _ hbw.out).1
        clear hF2 kB hb4 hbB hbw3 hall hm
        obtain ⟨NB, hNB⟩ : ∃ NB, w4.heap.size = NB := ⟨_, rfl⟩
        rw [hNB] at b0 b1
        go_wp2_with fail
        obtain ⟨wB, hwB⟩ : ∃ wB, w4.alloc (.cells #[.int .i64 G2, .slice s2 mm c2] 49) = wB := ⟨_, rfl⟩
        rw [hwB] at a0 a1 b0 b1 hFA hFB hbw ct ⊢
        clear hwB hNB hNA
        with_reducible refine Calls.mono ct ?_
        rintro e w5 ⟨rfl, hb5⟩
        have a0 := cell_then hb5 a0
        have a1 := cell_then hb5 a1
        have b0 := cell_then hb5 b0
        have b1 := cell_then hb5 b1
        have cs := same_any (hFA.out.below hb5) (hFB.out.below hb5) G2
        have hbw := Lib.hid (hbw.out.trans (hb5.mono hbw.out.size))
        clear ct hFA hFB hb5
        go_wp2_with fail
        with_reducible refine Calls.mono cs ?_
        rintro e w6 ⟨rfl, hb6⟩
        have hfin := hbw.out.trans (hb6.mono hbw.out.size)
        clear cs hb6 hbw
        go_wp2_with fail
        go_ret
        exact ⟨rfl, hfin⟩

set_option maxRecDepth 100000 in
theorem lifted (os : Os) (started : os.Started) (H : Type) (enc : TypeId × Value → H) :
    ReturnsInHanded {} Tryd.checked os 13 .any (fun w args => (Rows.codeTurnedSpec.pre enc Tryd.prog Tryd.f13 [] false w args ∧ laidMetH Tryd.prog [("treadmill/code.takes", Rows.laid_treadmill_code_takes)] w) ∧ sizedMet enc Tryd.prog Tryd.f13 (OpenSpec.ofChange Rows.codeTurnedSpec) false w args) (Rows.codeTurnedSpec.post enc Tryd.prog Tryd.f13 false true false false) := by
  refine returnsInHanded_of_change_and (C := Tryd.checked) (X := fun w _ => laidMetH Tryd.prog [("treadmill/code.takes", Rows.laid_treadmill_code_takes)] w) (fun _ _ _ hh h => h.of_heap hh) own started (by kernel_rfl) Tryd.func13
    (ChangeSpec.witness_shaped (enc := enc) (C := Tryd.checked) (os := os) (X := fun w _ => laidMetH Tryd.prog [("treadmill/code.takes", Rows.laid_treadmill_code_takes)] w) false (World.doorLaid Tryd.prog 400 os) #[.agg #[.int .i64 0, .slice none 0 0], .int .i64 0, .int .u8 0, .int .i64 0] 8 rfl (World.shaped_of_RefB (by kernel_rfl) (by kernel_rfl)) (by kernel_rfl) (by kernel_rfl) (by kernel_rfl) (door_met os _)) ?_
  intro W base args ds gs before hval0 hW _ _ hL _
  have hval : ∀ (j : Nat) t v, Tryd.f13.params[j]? = some t → args[j]? = some v → Value.okWide Tryd.prog W .any base t v := hval0
  have hW' := hW
  obtain ⟨p, q, hA0, hV, rfl, hfz, hnd⟩ := hW
  have hA : DataW.TrodAll enc Tryd.prog W 0 (fun _ => true) true Tryd.f13.params.toList args.toList ds p := hA0
  rw [Tryd.params13] at hA hval
  obtain ⟨v0, vs0, d0, ds0, p0, q0, hargs, rfl, rfl, h0, r0⟩ := trodAll_cons hA
  obtain ⟨v1, vs1, d1, ds1, p1, q1, rfl, rfl, rfl, h1, r1⟩ := trodAll_cons r0
  obtain ⟨v2, vs2, d2, ds2, p2, q2, rfl, rfl, rfl, h2, r2⟩ := trodAll_cons r1
  obtain ⟨v3, vs3, d3, ds3, p3, q3, rfl, rfl, rfl, h3, r3⟩ := trodAll_cons r2
  obtain ⟨rfl, rfl, rfl⟩ := trodAll_nil r3
  obtain rfl : args = #[v0, v1, v2, v3] := by cases args; simp_all
  obtain ⟨rfl, rfl⟩ := trodVars_none hV
  obtain ⟨g0, fv0, fs0, rfl, i0⟩ := prog_arg (hval 0 49 v0 rfl rfl) h0
  obtain ⟨a1, rfl, rfl, rfl, w1⟩ := open_int Tryd.underlying3 (hval 1 3 v1 rfl rfl) h1
  obtain ⟨a2, rfl, rfl, rfl, w2⟩ := open_int Tryd.underlying5 (hval 2 5 v2 rfl rfl) h2
  obtain ⟨a3, rfl, rfl, rfl, w3⟩ := open_int Tryd.underlying3 (hval 3 3 v3 rfl rfl) h3
  clear hA0 hval0
  simp only [List.append_nil] at hW'
  have lt0 : ∀ x ∈ p0, x.block < W.heap.size := fun x hx => by have := hW'.lt x (by simp [hx]); simpa using this
  refine (walk g0 fv0 fs0 a1 a2 a3 W (tk_of_laid hL) i0 w1 w2 w3).mono fun e W' ⟨he, hg⟩ => ?_
  subst he
  exact ⟨_, rfl, post_of_kept (pa := _) (pv := []) hW' (fun _ _ _ => (trodAll_cons_mk (shut_bool Tryd.underlying4 _) trodAll_mk0)) (trodAll_cons_mk (Below.trod laidOut (by kernel_rfl) (of_decide_eq_true (by kernel_rfl)) h0 hg lt0) (trodAll_cons_mk (shut_int Tryd.underlying3 w1) (trodAll_cons_mk (shut_int Tryd.underlying5 w2) (trodAll_cons_mk (shut_int Tryd.underlying3 w3) trodAll_mk0)))) (fun _ _ => rfl) (by simp) hg⟩

theorem over : Rows.codeTurnedRow.holds Tryd.pinned (OpenSpec.ofChange Rows.codeTurnedSpec) :=
  OpenClaim.holds_of_wide 13 Tryd.f13 rfl rfl rfl rfl rfl rfl rfl ⟨rfl, rfl, rfl, rfl, rfl⟩ rfl rfl rfl rfl rfl (by kernel_rfl) Tryd.func13 (by kernel_rfl)
    (of_decide_eq_true (by kernel_rfl)) (by unfold Func.isWrapper; first | (rw [if_pos (by decide +kernel)]; kernel_rfl) | (rw [if_neg (by decide +kernel)]; exact ⟨rfl, rfl⟩))
    (fun os started H enc _ => lifted os started H enc)

theorem proved : Rows.CodeTurnedCardSaid :=
  Claim7.holds_tied_plain_at .later [] [.data] true Rows.codeTurnedCard.stood.harness true
    over (fun _ h => by cases h) (by kernel_rfl) (fun _ h => by cases h) codeTurned_row_tie rfl ⟨rfl, rfl⟩ (by kernel_rfl) rfl
    (fun f fn hf hfn => by
      obtain rfl : f = 13 := Option.some.inj ((show Tryd.prog.funcNamed "treadmill/treadmilllaw15.CodeTurned" = some 13 by kernel_rfl).symm.trans hf) |>.symm
      obtain rfl : fn = Tryd.f13 := (Option.some.inj (Tryd.func13.symm.trans hfn)).symm
      exact ⟨by kernel_rfl, fun j t ht => by
        rw [Tryd.params13] at ht
        have hm : t ∈ [49, 3, 5, 3] := by simpa using Array.mem_of_getElem? ht
        have hall : ([49, 3, 5, 3].all fun u => !Tryd.prog.wantsStandIn u) = true := by kernel_rfl
        exact (show Tryd.prog.wantsStandIn t = false by simpa using List.all_eq_true.1 hall t hm)⟩)
    (by kernel_rfl)
#print axioms proved
end Go.Proofs.YtapkcjbfflgplaaDoor.codeTurned
