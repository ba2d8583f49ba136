/- For any whole number and any list of operations the statement PhasePlays answers true and leaves its arguments as they were: phases go as the document says, call by call. No condition. -/
import Derived.Test.YtikpoldmpmmpiabHome
import Derived.Test.YtikpoldmpmmpiabPhaseTold
import Derived.Test.YtikpoldmpmmpiabOp25
import Derived.Test.YtikpoldmpmmpiabPhaseRef
import Derived.WalkKit
import Derived.ProofKit
import Derived.OpenShut
import Derived.Deep.RegionHeld3
import Derived.Deep.RegionWith
import Derived.Deep.Cut
import Derived.Deep.CutBlock
import Derived.Deep.CutRange
import Derived.Deep.DeepCutAuto
import Derived.RegionTactic
import Derived.StillTailTactics
namespace Go.Proofs.Ytikpoldmpmmpiab.phasePlays
open Go.ChangeShapes Go.WideShapes Go.ChangeAt Go.WideElems Go.RowKit Go.Lib Fx Ho Ph Rw Ph
set_option linter.unusedVariables false

theorem own : ownKnob Try.prog.godebug = none := by kernel_rfl

/-- The program's phases and the document's own. -/
structure Sm (W0 w : World) (p g xp xg : Nat) (ph cy re : Int) (M : List Bool) (ph' cy' re' : Int) (M' : List Bool) : Prop where
  se : Se W0 w p g ph cy re M
  rf : IsRf w xp xg ph' cy' re' M'
  lx : W0.heap.size ≤ xp
  lxg : W0.heap.size ≤ xg
  off : Off (home p g) (home xp xg)
def Sp (W0 w : World) (p g xp xg : Nat) (ph cy re : Int) (M : List Bool) : Prop := Sm W0 w p g xp xg ph cy re M ph cy re M
section
variable {W0 w w' : World} {p g xp xg : Nat} {ph cy re ph' cy' re' a b c : Int} {M M' N : List Bool} {r : Value}
theorem Sm.prog (h : Sm W0 w p g xp xg ph cy re M ph' cy' re' M') (hw : Wrote (home p g) w (home p g) w') (ho : IsPh w' p g a b c N) : Sm W0 w' p g xp xg a b c N ph' cy' re' M' :=
  ⟨h.se.step hw ho, h.rf.wrote hw (fun k h1 h2 => h.off k h2 h1), h.lx, h.lxg, h.off⟩
theorem Sm.ref {xg' : Nat} (h : Sm W0 w p g xp xg ph cy re M ph' cy' re' M') (hw : Wrote (home xp xg) w (home xp xg') w') (ho : IsRf w' xp xg' a b c N) : Sm W0 w' p g xp xg' ph cy re M a b c N := by
  have hg : home xp xg xg' ∨ w.heap.size ≤ xg' := hw.home xg' (Or.inr rfl)
  refine ⟨⟨h.se.obj.wrote hw h.off, h.se.lp, h.se.lg, below_wrote h.se.below hw h.se.below.size (fun k hk => hk.elim (fun e => e ▸ h.lx) (fun e => e ▸ h.lxg))⟩, ho, h.lx, ?_, fun k h1 h2 => ?_⟩
  · rcases hg with hg | hg
    · exact hg.elim (fun e => e ▸ h.lx) (fun e => e ▸ h.lxg)
    · exact Nat.le_trans h.se.below.size hg
  · rcases h2 with rfl | rfl
    · exact h.off _ h1 (Or.inl rfl)
    · rcases hg with hg | hg
      · exact h.off _ h1 hg
      · have := h.se.obj.lt _ h1; omega
theorem Sm.draws (h : Sm W0 w p g xp xg ph cy re M ph' cy' re' M') (m : Nat) : Sm W0 (w.drewN m) p g xp xg ph cy re M ph' cy' re' M' := ⟨h.se.draws m, h.rf.drewN m, h.lx, h.lxg, h.off⟩
theorem Sm.later (h : Sm W0 w p g xp xg ph cy re M ph' cy' re' M') (hb : Below w.heap.size w w') : Sm W0 w' p g xp xg ph cy re M ph' cy' re' M' := ⟨h.se.later hb, h.rf.below hb, h.lx, h.lxg, h.off⟩
end
theorem gC_bd {b : Bool} {z cy : Int} {k : Nat} (h : 0 ≤ cy ∧ cy ≤ k) : 0 ≤ gC b z cy ∧ gC b z cy ≤ ((k + 1 : Nat) : Int) := by unfold gC; split <;> omega
theorem gE_bd {b : Bool} {z re : Int} {k : Nat} (h : 0 ≤ re ∧ re ≤ k) : 0 ≤ gE b z re ∧ gE b z re ≤ ((k + 1 : Nat) : Int) := by unfold gE; split <;> omega
theorem sE_bd {k ph re : Int} {a b : Bool} {M : List Bool} {q : Nat} (h : 0 ≤ re ∧ re ≤ q) : 0 ≤ sE k ph re a b M ∧ sE k ph re a b M ≤ ((q + 1 : Nat) : Int) := by unfold sE; split <;> omega
/-- What stands behind an operation of the round k. -/
def Rd (W0 wx : World) (p g xp : Nat) (k : Nat) : Prop := ∃ xg ph cy re M, Sp W0 wx p g xp xg ph cy re M ∧ (0 ≤ cy ∧ cy ≤ ((k : Nat) : Int)) ∧ (0 ≤ re ∧ re ≤ ((k : Nat) : Int))
set_option maxRecDepth 100000 in
set_option maxHeartbeats 4000000 in
theorem walk (a0 : Int) (v1 : Value) (zb1 : List (Int × Int × Bool × Bool)) (w : World) (w0 : (Lit.int .i64 a0).wf = true) (h1 : Op25 w v1 zb1) :
    Calls Try.prog 3 #[.int .i64 a0, v1] w fun e w' => e = .returned (.bool true) ∧ Below w.heap.size w w' := by
  have ct := fun w => told_any w
  have b0 := bounds_i64 w0
  obtain ⟨sp, cap, rfl, hmx, hc⟩ := h1
  obtain ⟨l, hl⟩ : ∃ l, zb1.length = l := ⟨_, rfl⟩
  rw [hl] at hmx hc
  rw [hl]
  have hcell : Hid (∀ W, Below w.heap.size w W → ∀ i, i < l → ∃ b off, sp = some ⟨b, off, none⟩ ∧ W.cell? ⟨b, off + i * 4, none⟩ = some (.int .i64 (zb1.getD i (0, 0, false, false)).1) ∧ W.cell? ⟨b, off + i * 4 + 1, none⟩ = some (.int .i64 (zb1.getD i (0, 0, false, false)).2.1) ∧ W.cell? ⟨b, off + i * 4 + 2, none⟩ = some (.bool (zb1.getD i (0, 0, false, false)).2.2.1) ∧ W.cell? ⟨b, off + i * 4 + 3, none⟩ = some (.bool (zb1.getD i (0, 0, false, false)).2.2.2)) := fun W hb i hi => by
    obtain ⟨b, off, e, _, k0, k1, k2, k3⟩ := hc i hi
    exact ⟨b, off, e, cell_then hb k0, by rw [Nat.add_assoc]; exact cell_then hb k1, by rw [Nat.add_assoc]; exact cell_then hb k2, by rw [Nat.add_assoc]; exact cell_then hb k3⟩
  clear hc w0
  by_cases hr : a0 < 1 ∨ 64 < a0
  · have cn := new_no a0 w hr
    rcases (show a0 < 1 ∨ (¬ a0 < 1 ∧ 64 < a0) by omega) with g1 | ⟨g1, g2⟩
    all_goals
      clear hr hl
      go_enter Try.func3, Try.ntmps3
      go_wp2_with fail
      with_reducible refine Calls.mono (cn) ?_
      rintro e w1 ⟨rfl, m, rfl⟩
      go_wp2_with fail
      with_reducible refine Calls.mono (ct _) ?_
      rintro e w2 ⟨rfl, h2⟩
      go_wp2_with fail
      go_ret
      exact ⟨rfl, below_then (below_drewN (Below.refl _ _) m) h2⟩
  obtain ⟨n, rfl⟩ : ∃ n : Nat, a0 = (n : Int) := ⟨a0.toNat, by omega⟩
  have n1 : 1 ≤ n := by omega
  have n2 : n ≤ 64 := by omega
  have cn := se_new n w n1 n2
  have hmk := run_make_row' (P := Try.prog) 28 4 (.bool false) 1 Try.underlying28 infoB rfl .i64 .i64 n (by omega) (by omega)
  rw [made_bools] at hmk
  clear hr hl b0
  go_enter Try.func3, Try.ntmps3
  go_wp2_with fail
  with_reducible refine Calls.mono (cn) ?_
  rintro e w1 ⟨p, g, rfl, h1⟩
  clear cn
  replace h1 := Lib.hid h1
  go_wp2_with fail
  have hS : Hid (∃ xp, w1.heap.size + 1 = xp ∧ Rd w ((w1.alloc (.cells (bcells (List.replicate n false)) 4)).alloc (.cells #[.int .i64 n, .int .i64 0, .int .i64 0, .int .i64 0, .slice (some ⟨w1.heap.size, 0, none⟩) n n] 30)) p g xp 0) := by
    have hb1 := below_alloc (Below.refl w1.heap.size w1) (.cells (bcells (List.replicate n false)) 4)
    have hsz : (w1.alloc (.cells (bcells (List.replicate n false)) 4)).heap.size = w1.heap.size + 1 := by show (w1.heap.push _).size = _; rw [Array.size_push]
    have hb2 := below_alloc (Below.refl _ (w1.alloc (.cells (bcells (List.replicate n false)) 4))) (.cells #[.int .i64 n, .int .i64 0, .int .i64 0, .int .i64 0, .slice (some ⟨w1.heap.size, 0, none⟩) n n] 30)
    have hlr : (List.replicate n false).length = n := List.length_replicate
    have hss := h1.out.below.size
    have hp := h1.out.obj.lt p (Or.inl rfl)
    have hg := h1.out.obj.lt g (Or.inr rfl)
    refine ⟨_, rfl, w1.heap.size, 0, 0, 0, List.replicate n false, ⟨(h1.out.later hb1).later hb2, ⟨?_, ?_, by omega, by rw [hlr]; omega, by rw [hlr]; exact n2⟩, by omega, hss, fun k h1 h2 => ?_⟩, by omega, by omega⟩
    · rw [hlr, ← hsz]; exact heap_alloc_new _ _
    · rw [hb2.block _ (by rw [hsz]; omega)]; exact heap_alloc_new _ _
    · rcases h1 with rfl | rfl <;> rcases h2 with h2 | h2 <;> omega
  obtain ⟨xp, hxp, hS⟩ := hS.out
  rw [hxp]
  generalize ((w1.alloc (.cells (bcells (List.replicate n false)) 4)).alloc (.cells #[.int .i64 n, .int .i64 0, .int .i64 0, .int .i64 0, .slice (some ⟨w1.heap.size, 0, none⟩) n n] 30)) = w3 at *
  replace hS := Lib.hid hS
  clear h1 hxp
  go_loopw [8] (fun i wr => ∃ k : Nat, i = .int .i64 k ∧ k ≤ l ∧ k ≤ 100 ∧ Hid (Rd w wr p g xp k)) (fun i _ => (l - (RowKit.intOf i).toNat))
  case atStart => exact ⟨0, rfl, by omega, by omega, hS⟩
  case round =>
    obtain ⟨k, rfl, k1, k2, hR⟩ := hrel
    clear hS
    obtain ⟨xg, ph, cy, re, M, hP, hcy, hre⟩ := hR
    by_cases hk : k < l ∧ k < 100
    · obtain ⟨hk, hk2⟩ := hk
      have i2 : (k : Int) < (l : Int) := by omega
      have i3 : (k : Int) < 100 := by omega
      have i4 : (0 : Int) ≤ (k : Int) := by omega
      obtain ⟨b, off, rfl, q0, q1, q2, q3⟩ := hcell.out wr hP.se.below k hk
      generalize (zb1.getD k (0, 0, false, false)).1 = K at *
      generalize (zb1.getD k (0, 0, false, false)).2.1 = P at *
      generalize (zb1.getD k (0, 0, false, false)).2.2.1 = E at *
      generalize (zb1.getD k (0, 0, false, false)).2.2.2 = F at *
      obtain ⟨o, ho⟩ : ∃ o, wr.heap.size = o := ⟨_, rfl⟩
      have hbA : Below wr.heap.size wr (wr.alloc (.cells #[.int .i64 K, .int .i64 P, .bool E, .bool F] 32)) := below_alloc (Below.refl _ _) _
      have hx : (wr.alloc (.cells #[.int .i64 K, .int .i64 P, .bool E, .bool F] 32)).heap[o]? = some (.cells #[.int .i64 K, .int .i64 P, .bool E, .bool F] 32 (0, 0)) := by rw [← ho]; exact heap_alloc_new _ _
      have hP2 : Sp w (wr.alloc (.cells #[.int .i64 K, .int .i64 P, .bool E, .bool F] 32)) p g xp xg ph cy re M := Sm.later hP hbA
      have hoff : o ≠ p ∧ o ≠ g := ⟨by have := hP.se.obj.lt p (Or.inl rfl); omega, by have := hP.se.obj.lt g (Or.inr rfl); omega⟩
      replace hx := Lib.hid hx
      replace hP2 := Lib.hid hP2
      clear hP hbA hcell
      obtain ⟨z, hz⟩ : ∃ z, w1.heap.size = z := ⟨_, rfl⟩
      rw [hz]
      clear hz
      have d0 := cell_of hx.out (j := 0) rfl
      obtain ⟨t, ht⟩ : ∃ t, (wrap64 (K.tmod 10 + 10)).tmod 10 = t := ⟨_, rfl⟩
      go_upto_block 2 with fail
      go_cut [10, 11] (fun a b wx => ∃ r, a = .int .i64 r ∧ b = .int .i64 r ∧ Hid (Rd w wx p g xp (k + 1)))
      case first =>
        rcases (show t = 0 ∨ t = 1 ∨ t = 2 ∨ t = 3 ∨ (¬ t = 0 ∧ ¬ t = 1 ∧ ¬ t = 2 ∧ ¬ t = 3) by omega) with rfl | rfl | rfl | rfl | ⟨t0, t1, t2, t3⟩
        · skip
          have hP3 := hP2.out
          have c1 := begin_all hP3.se.obj (by omega)
          have hmid := Lib.hid (fun w' hw ho => Sm.prog (w' := w') (a := gP (gOk 1 ph M) 1 ph) (b := gC (gOk 1 ph M) 1 cy) (c := gE (gOk 1 ph M) 1 re) (N := gM (gOk 1 ph M) 1 M) hP3 hw ho)
          have bc := gC_bd (b := gOk 1 ph M) (z := 1) hcy
          have be := gE_bd (b := gOk 1 ph M) (z := 1) hre
          have c2 : Hid (∀ w2, Sm w w2 p g xp xg (gP (gOk 1 ph M) 1 ph) (gC (gOk 1 ph M) 1 cy) (gE (gOk 1 ph M) 1 re) (gM (gOk 1 ph M) 1 M) ph cy re M → Calls Try.prog 19 #[.pointer (some ⟨xp, 0, none⟩), .int .i64 1] w2 (TurnsR (.int .i64 (gR (gOk 1 ph M))) w2 xp xg (gP (gOk 1 ph M) 1 ph) (gC (gOk 1 ph M) 1 cy) (gE (gOk 1 ph M) 1 re) (gM (gOk 1 ph M) 1 M))) := Lib.hid fun w2 h => rgo_all h.rf 1 (by omega) (by omega)
          generalize gR (gOk 1 ph M) = r at *
          generalize gP (gOk 1 ph M) 1 ph = ph2 at *
          generalize gC (gOk 1 ph M) 1 cy = cy2 at *
          generalize gE (gOk 1 ph M) 1 re = re2 at *
          generalize gM (gOk 1 ph M) 1 M = M2 at *
          clear hP2 hP3 hx d0
          go_wp2_with fail
          with_reducible refine Calls.mono (c1) ?_
          rintro e w4 ⟨rfl, hw, ho⟩
          have hm4 := hmid.out w4 hw ho
          have c3 := c2.out w4 hm4
          replace hm4 := Lib.hid hm4
          clear c1 c2 hmid hw ho
          go_wp2_with fail
          with_reducible refine Calls.mono (c3) ?_
          rintro e w5 ⟨rfl, xg2, hw, ho⟩
          have hfin : Hid (Rd w w5 p g xp (k + 1)) := ⟨xg2, ph2, cy2, re2, M2, Sm.ref hm4.out hw ho, bc, be⟩
          clear c3 hw ho hm4
          go_wp2_with fail
          go_meet
          exact ⟨r, rfl, rfl, hfin⟩
        · skip
          have hP3 := hP2.out
          have c1 := term_all hP3.se.obj
          have hmid := Lib.hid (fun w' hw ho => Sm.prog (w' := w') (a := gP (gOk 2 ph M) 2 ph) (b := gC (gOk 2 ph M) 2 cy) (c := gE (gOk 2 ph M) 2 re) (N := gM (gOk 2 ph M) 2 M) hP3 hw ho)
          have bc := gC_bd (b := gOk 2 ph M) (z := 2) hcy
          have be := gE_bd (b := gOk 2 ph M) (z := 2) hre
          have c2 : Hid (∀ w2, Sm w w2 p g xp xg (gP (gOk 2 ph M) 2 ph) (gC (gOk 2 ph M) 2 cy) (gE (gOk 2 ph M) 2 re) (gM (gOk 2 ph M) 2 M) ph cy re M → Calls Try.prog 19 #[.pointer (some ⟨xp, 0, none⟩), .int .i64 2] w2 (TurnsR (.int .i64 (gR (gOk 2 ph M))) w2 xp xg (gP (gOk 2 ph M) 2 ph) (gC (gOk 2 ph M) 2 cy) (gE (gOk 2 ph M) 2 re) (gM (gOk 2 ph M) 2 M))) := Lib.hid fun w2 h => rgo_all h.rf 2 (by omega) (by omega)
          generalize gR (gOk 2 ph M) = r at *
          generalize gP (gOk 2 ph M) 2 ph = ph2 at *
          generalize gC (gOk 2 ph M) 2 cy = cy2 at *
          generalize gE (gOk 2 ph M) 2 re = re2 at *
          generalize gM (gOk 2 ph M) 2 M = M2 at *
          clear hP2 hP3 hx d0
          go_wp2_with fail
          with_reducible refine Calls.mono (c1) ?_
          rintro e w4 ⟨rfl, hw, ho⟩
          have hm4 := hmid.out w4 hw ho
          have c3 := c2.out w4 hm4
          replace hm4 := Lib.hid hm4
          clear c1 c2 hmid hw ho
          go_wp2_with fail
          with_reducible refine Calls.mono (c3) ?_
          rintro e w5 ⟨rfl, xg2, hw, ho⟩
          have hfin : Hid (Rd w w5 p g xp (k + 1)) := ⟨xg2, ph2, cy2, re2, M2, Sm.ref hm4.out hw ho, bc, be⟩
          clear c3 hw ho hm4
          go_wp2_with fail
          go_meet
          exact ⟨r, rfl, rfl, hfin⟩
        · skip
          have hP3 := hP2.out
          have c1 := sweep_all hP3.se.obj
          have hmid := Lib.hid (fun w' hw ho => Sm.prog (w' := w') (a := gP (gOk 3 ph M) 3 ph) (b := gC (gOk 3 ph M) 3 cy) (c := gE (gOk 3 ph M) 3 re) (N := gM (gOk 3 ph M) 3 M) hP3 hw ho)
          have bc := gC_bd (b := gOk 3 ph M) (z := 3) hcy
          have be := gE_bd (b := gOk 3 ph M) (z := 3) hre
          have c2 : Hid (∀ w2, Sm w w2 p g xp xg (gP (gOk 3 ph M) 3 ph) (gC (gOk 3 ph M) 3 cy) (gE (gOk 3 ph M) 3 re) (gM (gOk 3 ph M) 3 M) ph cy re M → Calls Try.prog 19 #[.pointer (some ⟨xp, 0, none⟩), .int .i64 3] w2 (TurnsR (.int .i64 (gR (gOk 3 ph M))) w2 xp xg (gP (gOk 3 ph M) 3 ph) (gC (gOk 3 ph M) 3 cy) (gE (gOk 3 ph M) 3 re) (gM (gOk 3 ph M) 3 M))) := Lib.hid fun w2 h => rgo_all h.rf 3 (by omega) (by omega)
          generalize gR (gOk 3 ph M) = r at *
          generalize gP (gOk 3 ph M) 3 ph = ph2 at *
          generalize gC (gOk 3 ph M) 3 cy = cy2 at *
          generalize gE (gOk 3 ph M) 3 re = re2 at *
          generalize gM (gOk 3 ph M) 3 M = M2 at *
          clear hP2 hP3 hx d0
          go_wp2_with fail
          with_reducible refine Calls.mono (c1) ?_
          rintro e w4 ⟨rfl, hw, ho⟩
          have hm4 := hmid.out w4 hw ho
          have c3 := c2.out w4 hm4
          replace hm4 := Lib.hid hm4
          clear c1 c2 hmid hw ho
          go_wp2_with fail
          with_reducible refine Calls.mono (c3) ?_
          rintro e w5 ⟨rfl, xg2, hw, ho⟩
          have hfin : Hid (Rd w w5 p g xp (k + 1)) := ⟨xg2, ph2, cy2, re2, M2, Sm.ref hm4.out hw ho, bc, be⟩
          clear c3 hw ho hm4
          go_wp2_with fail
          go_meet
          exact ⟨r, rfl, rfl, hfin⟩
        · skip
          have hP3 := hP2.out
          have c1 := end_all hP3.se.obj
          have hmid := Lib.hid (fun w' hw ho => Sm.prog (w' := w') (a := gP (gOk 0 ph M) 0 ph) (b := gC (gOk 0 ph M) 0 cy) (c := gE (gOk 0 ph M) 0 re) (N := gM (gOk 0 ph M) 0 M) hP3 hw ho)
          have bc := gC_bd (b := gOk 0 ph M) (z := 0) hcy
          have be := gE_bd (b := gOk 0 ph M) (z := 0) hre
          have c2 : Hid (∀ w2, Sm w w2 p g xp xg (gP (gOk 0 ph M) 0 ph) (gC (gOk 0 ph M) 0 cy) (gE (gOk 0 ph M) 0 re) (gM (gOk 0 ph M) 0 M) ph cy re M → Calls Try.prog 19 #[.pointer (some ⟨xp, 0, none⟩), .int .i64 0] w2 (TurnsR (.int .i64 (gR (gOk 0 ph M))) w2 xp xg (gP (gOk 0 ph M) 0 ph) (gC (gOk 0 ph M) 0 cy) (gE (gOk 0 ph M) 0 re) (gM (gOk 0 ph M) 0 M))) := Lib.hid fun w2 h => rgo_all h.rf 0 (by omega) (by omega)
          generalize gR (gOk 0 ph M) = r at *
          generalize gP (gOk 0 ph M) 0 ph = ph2 at *
          generalize gC (gOk 0 ph M) 0 cy = cy2 at *
          generalize gE (gOk 0 ph M) 0 re = re2 at *
          generalize gM (gOk 0 ph M) 0 M = M2 at *
          clear hP2 hP3 hx d0
          go_wp2_with fail
          with_reducible refine Calls.mono (c1) ?_
          rintro e w4 ⟨rfl, hw, ho⟩
          have hm4 := hmid.out w4 hw ho
          have c3 := c2.out w4 hm4
          replace hm4 := Lib.hid hm4
          clear c1 c2 hmid hw ho
          go_wp2_with fail
          with_reducible refine Calls.mono (c3) ?_
          rintro e w5 ⟨rfl, xg2, hw, ho⟩
          have hfin : Hid (Rd w w5 p g xp (k + 1)) := ⟨xg2, ph2, cy2, re2, M2, Sm.ref hm4.out hw ho, bc, be⟩
          clear c3 hw ho hm4
          go_wp2_with fail
          go_meet
          exact ⟨r, rfl, rfl, hfin⟩
        · skip
          have e0 : (t == 0) = false := by simpa using t0
          have e1 : (t == 1) = false := by simpa using t1
          have e2 : (t == 2) = false := by simpa using t2
          have e3 : (t == 3) = false := by simpa using t3
          clear t0 t1 t2 t3
          have hP3 := hP2.out
          have c1 := say_all hP3.se.obj P E F (by omega)
          have hmid := Lib.hid (fun w' hw ho => Sm.prog (w' := w') (a := ph) (b := cy) (c := sE P ph re E F M) (N := sM P ph E F M) hP3 hw ho)
          have be := sE_bd (k := P) (ph := ph) (a := E) (b := F) (M := M) hre
          have c2 : Hid (∀ w2, Sm w w2 p g xp xg ph cy (sE P ph re E F M) (sM P ph E F M) ph cy re M → Calls Try.prog 24 #[.pointer (some ⟨xp, 0, none⟩), .int .i64 P, .bool E, .bool F] w2 (TurnsR (.int .i64 (sR P ph M.length)) w2 xp xg ph cy (sE P ph re E F M) (sM P ph E F M))) := Lib.hid fun w2 h => rsay_all h.rf P E F (by omega)
          generalize sR P ph M.length = r at *
          generalize sE P ph re E F M = re2 at *
          generalize sM P ph E F M = M2 at *
          have d1 := cell_of hx.out (j := 1) rfl
          have d2 := cell_of hx.out (j := 2) rfl
          have d3 := cell_of hx.out (j := 3) rfl
          have hkeep : Hid (∀ w4, Wrote (home p g) (wr.alloc (.cells #[.int .i64 K, .int .i64 P, .bool E, .bool F] 32)) (home p g) w4 → w4.heap[o]? = some (.cells #[.int .i64 K, .int .i64 P, .bool E, .bool F] 32 (0, 0))) := Lib.hid fun w4 hw => by rw [hw.block _ (block_lt hx.out) (fun h => h.elim hoff.1 hoff.2)]; exact hx.out
          clear hP2 hP3
          go_wp2_with fail
          with_reducible refine Calls.mono (c1) ?_
          rintro e w4 ⟨rfl, hw, ho⟩
          have hm4 := hmid.out w4 hw ho
          have c3 := c2.out w4 hm4
          have hk4 := hkeep.out w4 hw
          replace hm4 := Lib.hid hm4
          clear d0 d1 d2 d3 hx
          have d1 := cell_of hk4 (j := 1) rfl
          have d2 := cell_of hk4 (j := 2) rfl
          have d3 := cell_of hk4 (j := 3) rfl
          clear c1 c2 hmid hw ho hkeep hk4
          go_wp2_with fail
          with_reducible refine Calls.mono (c3) ?_
          rintro e w5 ⟨rfl, xg2, hw, ho⟩
          have hfin : Hid (Rd w w5 p g xp (k + 1)) := ⟨xg2, ph, cy, re2, M2, Sm.ref hm4.out hw ho, by omega, be⟩
          clear c3 hw ho hm4 d1 d2 d3
          go_wp2_with fail
          go_meet
          exact ⟨r, rfl, rfl, hfin⟩
      case rest =>
        obtain ⟨r, rfl, rfl, hR⟩ := hcut
        clear hP2 hx d0 q0 q1 q2 q3 hoff ho ht
        obtain ⟨xg2, ph2, cy2, re2, M2, hP, hcy2, hre2⟩ := hR
        obtain ⟨d0, d1, d2, d3, d4, -, -, -, -⟩ := hP.rf.c
        have s1 := fun m => phase_any (hP.se.obj.drewN m)
        have s2 := fun m => cycle_any (hP.se.obj.drewN m)
        have s3 := fun m => restarts_any (hP.se.obj.drewN m)
        have s4 := fun m => quiet_any (hP.se.obj.drewN m)
        have s5 := fun m => rquiet_any (hP.rf.drewN m)
        have hfin : Hid (∀ m, Rd w (wc.drewN m) p g xp (k + 1)) := Lib.hid fun m => ⟨xg2, ph2, cy2, re2, M2, Sm.draws hP m, hcy2, hre2⟩
        generalize quB ph2 M2 = B at *
        clear hP hcy2 hre2
        have e1 : (r != r) = false := by simp
        have e2 : (ph2 != ph2) = false := by simp
        have e3 : (cy2 != cy2) = false := by simp
        have e4 : (re2 != re2) = false := by simp
        go_wp2_with fail
        go_quiet ((first | (go_at_call 25; exact quiet_ans1 (s1 _)) | (go_at_call 26; exact quiet_ans1 (s2 _)) | (go_at_call 27; exact quiet_ans1 (s3 _)) | (go_at_call 28; exact quiet_ans1 (s4 _)) | (go_at_call 29; exact quiet_ans1 (s5 _))))
        have e5 : (B != B) = false := by simp
        have hfin2 := Lib.hid (hfin.out nq)
        generalize wc.drewN nq = wq at *
        clear hfin s1 s2 s3 s4 s5 d0 d1 d2 d3 d4
        go_wp2_with fail
        go_roundw
        case rel => exact ⟨k + 1, by go_num, by omega, by omega, hfin2⟩
        case measure => simp [RowKit.intOf]; omega
    · have hbel := hP.se.below
      clear hP
      rcases (show k = l ∨ (k < l ∧ k = 100) by omega) with rfl | ⟨hk1, rfl⟩
      · have i2 : ¬ (k : Int) < (k : Int) := by omega
        go_wp2_with fail
        with_reducible refine Calls.mono (ct _) ?_
        rintro e w4 ⟨rfl, hb4⟩
        go_wp2_with fail
        go_ret
        exact ⟨rfl, below_then hbel hb4⟩
      · have i2 : (100 : Int) < (l : Int) := by omega
        go_wp2_with fail
        with_reducible refine Calls.mono (ct _) ?_
        rintro e w4 ⟨rfl, hb4⟩
        go_wp2_with fail
        go_ret
        exact ⟨rfl, below_then hbel hb4⟩

set_option maxRecDepth 100000 in
theorem lifted (os : Os) (started : os.Started) (H : Type) (enc : TypeId × Value → H) :
    ReturnsInHanded {} Try.checked os 3 .any (Rows.phasePlaysSpec.pre6 enc Try.prog Try.f3 Rows.phasePlaysRow.domain false) (Rows.phasePlaysSpec.post enc Try.prog Try.f3 false true false false) := by
  refine returnsInHanded_of_change (C := Try.checked) own started (by kernel_rfl) Try.func3
    (ChangeSpec.witness6 (enc := enc) (C := Try.checked) false ⟨#[], #[.int .i64 0, .slice none 0 0], []⟩ 8 (by kernel_rfl) (by kernel_rfl) (by kernel_rfl) (by kernel_rfl)) ?_
  intro W base args ds gs before hval0 hW hcnd _
  have hval : ∀ (j : Nat) t v, Try.f3.params[j]? = some t → args[j]? = some v → Value.okWide Try.prog W .any base t v := hval0
  have hW' := hW
  obtain ⟨p, q, hA0, hV, rfl, hfz, hnd⟩ := hW
  have hA : DataW.TrodAll enc Try.prog W 0 (fun _ => true) true Try.f3.params.toList args.toList ds p := hA0
  rw [Try.params3] at hA hval
  obtain ⟨v0, vs0, d0, ds0, p0, q0, hargs, rfl, rfl, h0, r0⟩ := trodAll_cons hA
  obtain ⟨v1, vs1, d1, ds1, p1, q1, rfl, rfl, rfl, h1, r1⟩ := trodAll_cons r0
  obtain ⟨rfl, rfl, rfl⟩ := trodAll_nil r1
  obtain rfl : args = #[v0, v1] := by cases args; simp_all
  obtain ⟨rfl, rfl⟩ := trodVars_none hV
  obtain ⟨zb1, i1⟩ := op25_arg (hval 1 22 v1 rfl rfl) h1
  obtain ⟨a0, rfl, rfl, rfl, w0⟩ := open_int Try.underlying3 (hval 0 3 v0 rfl rfl) h0
  clear hA0 hval0
  simp only [List.append_nil] at hW'
  have lt1 : ∀ x ∈ p1, x.block < W.heap.size := fun x hx => by have := hW'.lt x (by simp [hx]); simpa using this
  refine (walk a0 v1 zb1 W w0 i1).mono fun e W' ⟨he, hg⟩ => ?_
  subst he
  exact ⟨_, rfl, post_of_kept (pa := _) (pv := []) hW' (fun _ _ _ => (trodAll_cons_mk (shut_bool Try.underlying4 _) trodAll_mk0)) (trodAll_cons_mk (shut_int Try.underlying3 w0) (trodAll_cons_mk (Below.trod laidOut (by kernel_rfl) (of_decide_eq_true (by kernel_rfl)) h1 hg lt1) trodAll_mk0)) (fun _ _ => rfl) (by simp) hg⟩

theorem over : Rows.phasePlaysRow.holds Try.pinned (OpenSpec.ofChange Rows.phasePlaysSpec) :=
  OpenClaim.holds_of_wide 3 Try.f3 rfl rfl rfl rfl rfl rfl rfl ⟨rfl, rfl, rfl, rfl, rfl⟩ rfl rfl rfl rfl rfl (by kernel_rfl) Try.func3 (by kernel_rfl)
    (of_decide_eq_true (by kernel_rfl)) (by unfold Func.isWrapper; first | (rw [if_pos (by decide +kernel)]; kernel_rfl) | (rw [if_neg (by decide +kernel)]; exact ⟨rfl, rfl⟩))
    (fun os started H enc _ => lifted os started H enc)

theorem proved : Rows.PhasePlaysSaid :=
  over
#print axioms proved
end Go.Proofs.Ytikpoldmpmmpiab.phasePlays
