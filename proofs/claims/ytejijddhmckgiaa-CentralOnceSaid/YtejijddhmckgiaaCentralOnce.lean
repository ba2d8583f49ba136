/- An id stands in one place at most and is told once: any ids from 0 to 9 put anywhere, then all that there are are taken; no conditions. -/
import Derived.Test.YtejijddhmckgiaaHome
import Derived.Test.YtejijddhmckgiaaCenOnce
import Derived.Test.YtejijddhmckgiaaOp8
import Derived.WalkKit
import Derived.ProofKit
import Derived.OpenShut
import Derived.Deep.RegionHeld3
import Derived.Deep.RegionWith
import Derived.Deep.Cut
import Derived.Deep.CutBlock
import Derived.Deep.CutRange
import Derived.Deep.LoopGhost
import Derived.Deep.DeepCutAuto
import Derived.RegionTactic
import Derived.StillTailTactics
namespace Go.Proofs.Ytejijddhmckgiaa.centralOnce
open Go.ChangeShapes Go.WideShapes Go.ChangeAt Go.WideElems Go.RowKit Go.Lib Fx Ho Rw Ce Rw
set_option linter.unusedVariables false

theorem own : ownKnob Try.prog.godebug = none := by kernel_rfl

theorem below_same {a b : World} (hh : b.heap = a.heap) (ho : b.os = a.os) (ht : b.tape = a.tape) (hu : b.output = a.output) : Below a.heap.size a b := ⟨ho, ht, hu, by rw [hh]; exact Nat.le_refl _, fun k _ => by rw [hh]⟩
theorem step_call4 {P : Program} {ops : Array Oper} {o : Oper} {a : Act} {w : World} {K : Act → World → Prop} {Q : Exit → Act → World → Prop} {E : Prop} (hgd : o.guard = none) (f : Nat) (x1 x2 x3 x4 : Operand) {ts : Array TypeId} (ho : o.op = .call { callee := .value (.func f), args := #[x1, x2, x3, x4], argTypes := ts }) (v1 v2 v3 v4 : Value) (ha1 : a.eval x1 = v1) (ha2 : a.eval x2 = v2) (ha3 : a.eval x3 = v3) (ha4 : a.eval x4 = v4) (hcf : (callFunc f #[v1, v2, v3, v4]).run P w = .ok (.enter f #[v1, v2, v3, v4]) w) {post : Ending → World → Prop}
    (hc : Calls P f #[v1, v2, v3, v4] w post) (hK : ∀ e w', post e w' → ∃ v, e = .returned v ∧ K (a.put o.dst v) w') : if Region.wanted o (yielded ops a.tmps) = true then Oper.wp P o a w K Q else E :=
  step_call hgd f #[x1, x2, x3, x4] ho #[v1, v2, v3, v4] (by simp [ha1, ha2, ha3, ha4]) hcf hc hK
/-- The last loop's state: those from i on stand there yet. -/
def Gone (w W : World) (p n g i : Nat) (F : Nat → Bool) : Prop := ∃ Q, On w W p n Q g F ∧ ∀ y, inQ Q y = true ↔ ∃ j : Nat, y = (j : Int) ∧ i ≤ j ∧ j < 10 ∧ F j = true
theorem gone_of {w W : World} {p n g : Nat} {F : Nat → Bool} {Q : Ce.Rows} (h : On w W p n Q g F) (hI : In F Q) : Gone w W p n g 0 F :=
  ⟨Q, h, fun y => by rw [hI.2.1]; exact ⟨fun ⟨j, a, b, c⟩ => ⟨j, a, Nat.zero_le _, b, c⟩, fun ⟨j, a, _, b, c⟩ => ⟨j, a, b, c⟩⟩⟩
theorem Gone.below {w W W' : World} {p n g i : Nat} {F : Nat → Bool} (h : Gone w W p n g i F) (hb : Below W.heap.size W W') : Gone w W' p n g i F := by
  obtain ⟨Q, h1, h2⟩ := h
  exact ⟨Q, h1.below hb, h2⟩
theorem gone_del {w W : World} {p n g i : Nat} {F : Nat → Bool} (h : Gone w W p n g i F) (hi : i < 10) (hn : n ≤ 1000) : Calls Try.prog 22 #[.pointer (some ⟨p, 0, none⟩), .int .i64 i] W fun e W' => e = .returned (.bool (F i)) ∧ Gone w W' p n g (i + 1) F := by
  obtain ⟨Q, h1, h2⟩ := h
  have hin : inQ Q (i : Int) = F i := by
    cases hF : F i with
    | true => exact (h2 _).2 ⟨i, rfl, Nat.le_refl _, hi, hF⟩
    | false =>
      rw [Bool.eq_false_iff]; intro e
      obtain ⟨j, hj, _, _, hF2⟩ := (h2 _).1 e
      have : i = j := by exact_mod_cast hj
      rw [this, hF2] at hF; cases hF
  refine (o_del h1 (by omega) (wf_of (x := (i : Int)) (by omega))).mono fun e W' ⟨he, ho⟩ => ⟨by rw [he, hin], _, ho, fun y => ?_⟩
  rw [in_del h1.apart, h2]
  constructor
  · rintro ⟨hy, j, rfl, a, b, c⟩
    exact ⟨j, rfl, by have : j ≠ i := fun e => hy (by rw [e]); omega, b, c⟩
  · rintro ⟨j, rfl, a, b, c⟩
    exact ⟨fun e => by have : j = i := (by exact_mod_cast e); omega, j, rfl, by omega, b, c⟩
theorem Gone.uns {w W : World} {p n g : Nat} {F : Nat → Bool} (h : Gone w W p n g 10 F) (hn : n ≤ 1000) : Calls Try.prog 23 #[.pointer (some ⟨p, 0, none⟩)] W (Still (.int .i64 0) W) := by
  obtain ⟨Q, h1, h2⟩ := h
  have := o_uns h1 (by omega)
  rw [uns_none (fun y => by rw [Bool.eq_false_iff]; intro e; obtain ⟨j, _, a, b, _⟩ := (h2 y).1 e; omega) h1.apart] at this
  exact this
/-- The state of the taking loop. -/
def Tk (bg : Bool) (w W : World) (p n g c : Nat) : Prop := ∃ Q F, On w W p n Q g F ∧ In F Q ∧ c + cnt F 10 ≤ 10 ∧ (bg = true → msum Q 32 = 0)
/-- One was taken: x. -/
def Tx (bg : Bool) (w W : World) (p n g c : Nat) (x : Int) : Prop := ∃ Q F j, On w W p n Q g F ∧ In (updB F j false) Q ∧ x = (j : Int) ∧ j < 10 ∧ F j = true ∧ c + cnt F 10 ≤ 10 ∧ (bg = true → msum Q 32 = 0)
theorem tx_of {bg : Bool} {w W' : World} {p n g c : Nat} {F : Nat → Bool} {Q : Ce.Rows} {x : Int} (hI : In F Q) (hc : c + cnt F 10 ≤ 10) (hm : bg = true → msum Q 32 = 0) (hx : inQ Q x = true) (ho : On w W' p n (delQ Q x) g F) : Tx bg w W' p n g c x := by
  obtain ⟨j, rfl, hj, hF⟩ := (hI.2.1 _).1 hx
  refine ⟨_, F, j, ho, hI.del hj hF, rfl, hj, hF, hc, fun hb => ?_⟩
  obtain ⟨r, hr, hm2⟩ := inQ_at hx
  have := msum_del hI.1 hm2 32
  have := hm hb
  omega
theorem Tx.bounds {bg : Bool} {w W : World} {p n g c : Nat} {x : Int} (h : Tx bg w W p n g c x) : ∃ j : Nat, x = (j : Int) ∧ j < 10 ∧ c ≤ 9 ∧ W.cell? ⟨g, j, none⟩ = some (.bool true) ∧ W.frozen? ⟨g, j, none⟩ = false ∧ Hid (Tk bg w (W.setCell ⟨g, j, none⟩ (.bool false)) p n g (c + 1)) := by
  obtain ⟨Q, F, j, ho, hI, hx, hj, hF, hc, hm⟩ := h
  have h3 := cnt_upd F j false 10
  rw [if_pos hj, if_pos hj, hF] at h3
  simp at h3
  refine ⟨j, hx, hj, by omega, by rw [ho.cell hj, hF], ho.fz j, Lib.hid ⟨Q, _, ho.set hj false, hI, by omega, hm⟩⟩
def Lp (w W : World) (p n g c : Nat) (ok : Bool) (x : Int) : Prop := (ok = true ∧ Tx false w W p n g c x) ∨ (ok = false ∧ Tk false w W p n g c)
theorem tk_any {w W : World} {p n g c : Nat} (h : Tk true w W p n g c) (hn : n ≤ 1000) : Calls Try.prog 26 #[.pointer (some ⟨p, 0, none⟩)] W fun e W' => ∃ k x b, e = .returned (.tuple #[.int .i64 k, .int .i64 x, .bool b]) ∧ ((b = true ∧ Tx true w W' p n g c x) ∨ (b = false ∧ ∃ F, (∀ j, j < 10 → F j = false) ∧ Gone w W' p n g 0 F)) := by
  obtain ⟨Q, F, ho, hI, hc, hm⟩ := h
  refine (o_any ho (by omega)).mono fun e W' ⟨he, h1⟩ => ⟨_, _, _, he, ?_⟩
  rcases any_cases hI.1 with ⟨k, x, ha, hx, hq⟩ | ⟨ha, hq, hu⟩
  · rw [ha]; rw [hq] at h1
    exact .inl ⟨rfl, tx_of hI hc hm hx h1⟩
  · rw [ha]; rw [hq] at h1
    refine .inr ⟨rfl, F, cnt_zero 10 ?_, gone_of h1 hI⟩
    have := hI.2.2; have := hm rfl; omega
theorem tk_take {w W : World} {p n g c k : Nat} (h : Tk false w W p n g c) (hn : n ≤ 1000) (hk : k < 16) : Calls Try.prog 24 #[.pointer (some ⟨p, 0, none⟩), .int .i64 k] W fun e W' => ∃ x b c2, e = .returned (.tuple #[.int .i64 x, .bool b, .bool c2]) ∧ ((c2 = true ∧ Tx false w W' p n g c x) ∨ (c2 = false ∧ Tk false w W' p n g c)) := by
  obtain ⟨Q, F, ho, hI, hc, hm⟩ := h
  refine (o_take ho (by omega) hk).mono fun e W' ⟨he, h1⟩ => ⟨_, _, _, he, ?_⟩
  rcases take_cases hI.1 k with ⟨x, b, ha, hx, hq⟩ | ⟨ha, hq⟩
  · rw [ha]; rw [hq] at h1
    exact .inl ⟨rfl, tx_of hI hc hm hx h1⟩
  · rw [ha]; rw [hq] at h1
    exact .inr ⟨rfl, Q, F, h1, hI, hc, hm⟩
set_option maxRecDepth 100000 in
set_option maxHeartbeats 4000000 in
theorem walk (v0 : Value) (zb0 : List _) (a1 : Bool) (w : World) (h0 : Op8 w v0 zb0) :
    Calls Try.prog 5 #[v0, .bool a1] w fun e w' => e = .returned (.bool true) ∧ Below w.heap.size w w' := by
  obtain ⟨sp, cap, rfl, hm, hc⟩ := h0
  obtain ⟨l, hl⟩ : ∃ l, zb0.length = l := ⟨_, rfl⟩
  rw [hl] at hm hc ⊢
  have hcells : Hid (∀ i, i < l → ∃ b off, sp = some ⟨b, off, none⟩ ∧ ∀ W, Below w.heap.size w W → W.cell? ⟨b, off + i * 4 + 1, none⟩ = some (.int .i64 (zb0.getD i (0, 0, 0, false)).2.1) ∧ W.cell? ⟨b, off + i * 4 + 2, none⟩ = some (.int .i64 (zb0.getD i (0, 0, 0, false)).2.2.1) ∧ W.cell? ⟨b, off + i * 4 + 3, none⟩ = some (.bool (zb0.getD i (0, 0, 0, false)).2.2.2)) := Lib.hid fun i hi => by
    obtain ⟨b, off, e, _, _, d1, d2, d3⟩ := hc i hi
    refine ⟨b, off, e, fun W hW => ⟨?_, ?_, ?_⟩⟩
    · rw [Nat.add_assoc]; exact cell_then hW d1
    · rw [Nat.add_assoc]; exact cell_then hW d2
    · rw [Nat.add_assoc]; exact cell_then hW d3
  clear hc hl
  by_cases hlg : 30 < l
  · have hlg2 : (30 : Int) < (l : Int) := by omega
    have ct := told_any w
    clear hcells
    go_enter Try.func5, Try.ntmps5
    go_wp2_with fail
    with_reducible refine Calls.mono (ct) ?_
    rintro e wa ⟨rfl, hb⟩
    go_wp2_with fail
    go_ret
    exact ⟨rfl, hb⟩
  have hlg2 : ¬ (30 : Int) < (l : Int) := by omega
  have hl30 : l ≤ 30 := by omega
  have cn := c_new w
  have hmk := make10
  have hnew : Hid (∀ p w1, Cc (fun k => w.heap.size ≤ k) w w1 p 0 (fun _ => []) → ∃ Q F, On w (w1.alloc (.cells (bA (fun _ => false)) 4)) p 0 Q w1.heap.size F ∧ In F Q ∧ uns Q 32 = 0) := Lib.hid fun p w1 h => ⟨_, _, on_new h, in_nil, uns_nil 32⟩
  generalize bA (fun _ => false) = A0 at *
  clear hlg
  go_enter Try.func5, Try.ntmps5
  go_wp2_with fail
  with_reducible refine Calls.mono (cn) ?_
  rintro e wa ⟨p, rfl, _, h1⟩
  have h2 := Lib.hid (hnew.out p wa h1)
  clear cn hnew h1
  go_wp2_with fail
  obtain ⟨g, hg⟩ : ∃ g, wa.heap.size = g := ⟨_, rfl⟩
  rw [hg] at h2 ⊢
  generalize wa.alloc (.cells A0 4) = wb at *
  clear hmk hg
  go_loopw [7] (fun v wr => ∃ i : Nat, v = .int .i64 i ∧ i ≤ l ∧ Hid (∃ Q F, On w wr p i Q g F ∧ In F Q ∧ uns Q 32 = 0)) (fun v _ => (l - (RowKit.intOf v).toNat))
  case atStart => exact ⟨0, rfl, by omega, h2⟩
  case round =>
    clear h2
    obtain ⟨i, rfl, i1, hH⟩ := hrel
    by_cases hi : i < l
    · have i2 : (i : Int) < (l : Int) := by omega
      have i0 : (0 : Int) ≤ (i : Int) := by omega
      obtain ⟨Q, F, hO, hI, hu⟩ := hH.out
      obtain ⟨b, off, rfl, hcs⟩ := hcells.out i hi
      obtain ⟨d1, d2, d3⟩ := hcs wr hO.bel
      replace hi := Lib.hid hi
      generalize (zb0.getD i (0, 0, 0, false)).2.1 = A at *
      generalize (zb0.getD i (0, 0, 0, false)).2.2.1 = B at *
      generalize (zb0.getD i (0, 0, 0, false)).2.2.2 = f at *
      obtain ⟨U, hU⟩ : ∃ U : Int, IntKind.u64.wrap A = U := ⟨_, rfl⟩
      have U0 : 0 ≤ U := by rw [← hU, IntKind.wrap_u64]; omega
      obtain ⟨V, hV⟩ : ∃ V : Int, IntKind.u64.wrap B = V := ⟨_, rfl⟩
      have V0 : 0 ≤ V := by rw [← hV, IntKind.wrap_u64]; omega
      obtain ⟨c, hc⟩ : ∃ c : Nat, U % 16 = (c : Int) := ⟨(U % 16).toNat, by omega⟩
      obtain ⟨k, hk⟩ : ∃ k : Nat, V % 10 = (k : Int) := ⟨(V % 10).toNat, by omega⟩
      have c16 : c < 16 := by omega
      have k10 : k < 10 := by omega
      have k0 : (0 : Int) ≤ (k : Int) := by omega
      have k9 : (k : Int) < 10 := by omega
      have c0 : (0 : Int) ≤ (c : Int) := by omega
      have c15 : (c : Int) < 16 := by omega
      have ht : U.tmod 16 = (c : Int) := by rw [Int.tmod_eq_emod_of_nonneg U0]; exact hc
      have hw : IntKind.i64.wrap (c : Int) = (c : Int) := by rw [IntKind.wrap_i64]; omega
      have cP : Hid (∀ W, W.heap = wr.heap → W.os = wr.os → W.tape = wr.tape → W.output = wr.output → Calls Try.prog 20 #[.pointer (some ⟨p, 0, none⟩), .int .i64 c, .int .i64 k, .bool f] W fun e w5 => e = .returned (.tuple #[]) ∧ w5.cell? ⟨g, k, none⟩ = some (.bool (F k)) ∧ w5.frozen? ⟨g, k, none⟩ = false ∧ Hid (∃ Q F, On w (w5.setCell ⟨g, k, none⟩ (.bool true)) p (i + 1) Q g F ∧ In F Q ∧ uns Q 32 = 0)) := Lib.hid fun W e1 e2 e3 e4 => (o_put (hO.below (below_same e1 e2 e3 e4)) (by omega) c16 (wf_of (x := (k : Int)) (by omega)) f).mono fun e w5 ⟨he, h5⟩ => by
        have hr : (c * 4 + cond f 1 0) % 4 < 2 := by cases f <;> simp <;> omega
        have hr2 : c * 4 + cond f 1 0 < 64 := by cases f <;> simp <;> omega
        refine ⟨he, h5.cell k10, h5.fz k, Lib.hid ⟨_, _, h5.set k10 true, hI.put k10 hr hr2, ?_⟩⟩
        rw [uns_put hr]
        by_cases hin : inQ Q (k : Int) = true
        · obtain ⟨r, _, hmm⟩ := inQ_at hin
          have := uns_del hI.1 hmm 32
          omega
        · rw [del_not hI.1 (by simpa using hin)]; exact hu
      clear hH hO hI hu hcs
      generalize F k = fk at *
      go_wp2_with fail
      go_region_with (go_at_call 20; ((refine Calls.mono (cP.out _ (by rfl) (by rfl) (by rfl) (by rfl)) ?_); rintro e w5 ⟨rfl, c1', f1', hgo⟩))
      all_goals
        clear cP d1 d2 d3
        go_wp2_with fail
        go_roundw
        case rel => exact ⟨i + 1, by go_num, by have := hi.out; omega, hgo⟩
        case measure => simp [RowKit.intOf]; omega
    · obtain rfl : l = i := by omega
      have i2 : ¬ (l : Int) < (l : Int) := by omega
      clear hcells
      cases a1 with
      | true =>
        obtain ⟨Q, F, hO, hI, hu⟩ := hH.out
        have hms : msum Q 32 = cnt F 10 := by have := hI.2.2; omega
        have hcl := cnt_le F 10
        have cb := o_begin hO (by omega)
        rw [hms] at cb
        have hnx : Hid (∀ W, On w W p (l + cnt F 10) (begQ Q) g F → Calls Try.prog 23 #[.pointer (some ⟨p, 0, none⟩)] W (Still (.int .i64 (cnt F 10)) W) ∧ Tk true w W p (l + cnt F 10) g 0) := Lib.hid fun W h => by
          have cu := o_uns h (by omega)
          rw [uns_beg 32 (by omega), hu, hms, Nat.zero_add] at cu
          exact ⟨cu, _, F, h, hI.beg h.apart, by omega, fun _ => msum_beg 32 (by omega)⟩
        obtain ⟨n, hn0⟩ : ∃ n, l + cnt F 10 = n := ⟨_, rfl⟩
        rw [hn0] at cb hnx
        have hn : n ≤ 1000 := by omega
        clear hH hO hI hu hms hn0
        go_wp2_with fail
        with_reducible refine Calls.mono (cb) ?_
        rintro e wc ⟨rfl, h1⟩
        obtain ⟨cu, hT⟩ := hnx.out wc h1
        have hcell : Hid (∀ i, i < 10 → wc.cell? ⟨g, i, none⟩ = some (.bool (F i))) := Lib.hid fun i hi => h1.cell hi
        replace hT := Lib.hid hT
        clear cb hnx h1
        go_wp2_with fail
        go_loopw [9, 10] (fun u v wx => ∃ i : Nat, u = .int .i64 (cnt F i) ∧ v = .int .i64 i ∧ i ≤ 10 ∧ wx = wc) (fun _ v _ => (10 - (RowKit.intOf v).toNat))
        case atStart => exact ⟨0, rfl, rfl, by omega, rfl⟩
        case round =>
          obtain ⟨i, rfl, rfl, i1, rfl⟩ := hrel
          by_cases hi : i < 10
          · have i3 : (i : Int) < 10 := by omega
            have i0 : (0 : Int) ≤ (i : Int) := by omega
            have ci := hcell.out i hi
            have hle := cnt_le F i
            have hl1 : (cnt F i : Int) ≤ 10 := by omega
            have hl0 : (0 : Int) ≤ (cnt F i : Int) := by omega
            have hstep : Hid (cnt F (i + 1) = cnt F i + cond (F i) 1 0) := Lib.hid rfl
            generalize F i = fi at *
            cases fi with
            | true =>
              go_wp2_with fail
              go_roundw
              case rel => exact ⟨i + 1, by rw [hstep.out]; go_num, by go_num, by omega, by first | rfl | trivial⟩
              case measure => simp [RowKit.intOf]; omega
            | false =>
              go_wp2_with fail
              go_roundw
              case rel => exact ⟨i + 1, by rw [hstep.out]; rfl, by go_num, by omega, by first | rfl | trivial⟩
              case measure => simp [RowKit.intOf]; omega
          · obtain rfl : i = 10 := by omega
            have hne : (((cnt F 10 : Nat) : Int) != ((cnt F 10 : Nat) : Int)) = false := by simp
            clear hcell hcl
            go_wp2_with fail
            with_reducible refine Calls.mono cu ?_
            rintro e wd ⟨rfl, ew⟩
            subst ew
            clear cu
            go_wp2_with fail
            clear hne
            go_loopw [11] (fun v wx => ∃ c : Nat, v = .int .i64 c ∧ c ≤ 10 ∧ Hid (Tk true w wx p n g c)) (fun v _ => (11 - (RowKit.intOf v).toNat))
            case atStart => exact ⟨0, rfl, by omega, hT⟩
            case round =>
              clear hT
              obtain ⟨c, rfl, c1, hT⟩ := hrel
              have ca := tk_any hT.out hn
              have c0 : (0 : Int) ≤ (c : Int) := by omega
              clear hT
              go_wp2_with fail
              with_reducible refine Calls.mono (ca) ?_
              rintro e we ⟨kk, x, b, rfl, hcase⟩
              clear ca
              rcases hcase with ⟨rfl, hX⟩ | ⟨rfl, F2, hF2, hGo⟩
              · replace hX := Lib.hid hX
                go_wp2_with fail
                go_loopw [12, 13, 14] (fun u v t wx => u = .int .i64 x ∧ v = .bool true ∧ t = .int .i64 0 ∧ wx = we) (fun _ _ _ _ => 0)
                case atStart => exact ⟨rfl, rfl, rfl, rfl⟩
                case round =>
                  obtain ⟨rfl, rfl, rfl, rfl⟩ := hrel
                  obtain ⟨j, rfl, j10, c9, cj, fj, hgo⟩ := hX.out.bounds
                  have j0 : ¬ (j : Int) < 0 := by omega
                  have j1 : ¬ (9 : Int) < (j : Int) := by omega
                  have j2 : (0 : Int) ≤ (j : Int) := by omega
                  have j3 : (j : Int) < 10 := by omega
                  have c10 : ¬ (10 : Int) < (c : Int) := by omega
                  clear hX
                  go_wp2_with fail
                  go_roundw
                  case rel => exact ⟨c + 1, by go_num, by omega, hgo⟩
                  case measure => simp [RowKit.intOf]; omega
              · replace hF2 := Lib.hid hF2
                replace hGo := Lib.hid hGo
                go_wp2_with fail
                go_loopw [12, 13, 14] (fun u v t wx => u = .int .i64 x ∧ v = .bool false ∧ t = .int .i64 0 ∧ wx = we) (fun _ _ _ _ => 0)
                case atStart => exact ⟨rfl, rfl, rfl, rfl⟩
                case round =>
                  obtain ⟨rfl, rfl, rfl, rfl⟩ := hrel
                  go_wp2_with fail
                  have cD0 := hGo.out
                  clear hGo
                  go_loopw [15] (fun v wx => ∃ i : Nat, v = .int .i64 i ∧ i ≤ 10 ∧ Hid (Gone w wx p n g i F2)) (fun v _ => (10 - (RowKit.intOf v).toNat))
                  case atStart => exact ⟨0, rfl, by omega, Lib.hid cD0⟩
                  case round =>
                    clear cD0
                    obtain ⟨i, rfl, i1, hG⟩ := hrel
                    by_cases hi : i < 10
                    · have i2 : (i : Int) < 10 := by omega
                      have i0 : (0 : Int) ≤ (i : Int) := by omega
                      obtain ⟨b, hb⟩ : ∃ b, F2 i = b := ⟨_, rfl⟩
                      have hbb : (b != b) = false := by cases b <;> rfl
                      have hbf : b = false := by rw [← hb]; exact hF2.out i hi
                      subst hbf
                      have cg : wr.cell? ⟨g, i, none⟩ = some (.bool false) := by obtain ⟨Q, h1, _⟩ := hG.out; rw [h1.cell hi, hb]
                      have cD : Hid (∀ W, Below wr.heap.size wr W → Calls Try.prog 22 #[.pointer (some ⟨p, 0, none⟩), .int .i64 i] W fun e w5 => e = .returned (.bool false) ∧ w5.cell? ⟨g, i, none⟩ = some (.bool false) ∧ Hid (Gone w w5 p n g (i + 1) F2)) := Lib.hid fun W hW => (gone_del (hG.out.below hW) hi hn).mono fun e w5 ⟨he, h5⟩ => by
                        refine ⟨by rw [he, hb], ?_, Lib.hid h5⟩
                        obtain ⟨Q, h1, _⟩ := h5
                        rw [h1.cell hi, hb]
                      clear hG hb
                      have hbd : Below wr.heap.size wr wr.drew := (Below.refl _ _).drew
                      go_wp2_with fail
                      go_region_held3 (fun W' => W'.cell? ⟨g, i, none⟩ = some (.bool false)) (first | exact cg | go_keep | assumption | exact c1') (first | (go_at_call 22; ((with_reducible refine (cD.out _ (by repeat (first | assumption | exact Below.refl _ _ | refine below_drewN ?_ _ | refine below_alloc ?_ _ | refine below_then ?_ (by assumption)))).mono ?_); rintro e w5 ⟨rfl, c1', hgo⟩)))
                      all_goals
                        clear hbd cD cg hbb
                        go_wp2_with fail
                        go_roundw
                        case rel => exact ⟨i + 1, by go_num, by omega, hgo⟩
                        case measure => simp [RowKit.intOf]; omega
                    · obtain rfl : i = 10 := by omega
                      have ct := told_any wr
                      go_wp2_with fail
                      with_reducible refine Calls.mono ct ?_
                      rintro e wg ⟨rfl, hb⟩
                      have h2 := hG.out.below hb
                      have cu := h2.uns hn
                      have hbel : Below w.heap.size w wg := by obtain ⟨Q, h3, _⟩ := h2; exact h3.bel
                      replace hbel := Lib.hid hbel
                      clear ct hb h2 hG
                      go_wp2_with fail
                      with_reducible refine Calls.mono cu ?_
                      rintro e wh ⟨rfl, ew⟩
                      subst ew
                      clear cu
                      go_wp2_with fail
                      go_ret
                      exact ⟨rfl, hbel.out⟩
      | false =>
        have hT : Hid (Tk false w wr p l g 0) := Lib.hid (by
          obtain ⟨Q, F, hO, hI, hu⟩ := hH.out
          exact ⟨Q, F, hO, hI, by have := cnt_le F 10; omega, fun h => by cases h⟩)
        clear hH
        obtain ⟨n, hn0⟩ : ∃ n, l = n := ⟨_, rfl⟩
        have hn : n ≤ 1000 := by omega
        have hT : Hid (Tk false w wr p n g 0) := hn0 ▸ hT
        clear hn0
        go_wp2_with fail
        go_loopw [11] (fun v wx => ∃ c : Nat, v = .int .i64 c ∧ c ≤ 10 ∧ Hid (Tk false w wx p n g c)) (fun v _ => (11 - (RowKit.intOf v).toNat))
        case atStart => exact ⟨0, rfl, by omega, hT⟩
        case round =>
          clear hT
          obtain ⟨c, rfl, c1, hT⟩ := hrel
          have c0 : (0 : Int) ≤ (c : Int) := by omega
          have hst : Hid (Lp w wr p n g c false 0) := Lib.hid (.inr ⟨rfl, hT.out⟩)
          clear hT
          go_wp2_with fail
          go_loopw [12, 13, 14] (fun u v t wx => ∃ (k : Nat) (ok : Bool) (x : Int), u = .int .i64 x ∧ v = .bool ok ∧ t = .int .i64 k ∧ k ≤ 16 ∧ Hid (Lp w wx p n g c ok x)) (fun _ _ t _ => (16 - (RowKit.intOf t).toNat))
          case atStart => exact ⟨0, false, 0, rfl, rfl, rfl, by omega, hst⟩
          case round =>
            clear hst
            obtain ⟨k, ok, x, rfl, rfl, rfl, k1, hst⟩ := hrel
            have k0 : (0 : Int) ≤ (k : Int) := by omega
            by_cases hk : k < 16
            · have k2 : (k : Int) < 16 := by omega
              cases ok with
              | true =>
                have hX : Hid (Tx false w wr p n g c x) := Lib.hid (by rcases hst.out with ⟨_, h⟩ | ⟨h, _⟩; exact h; cases h)
                clear hst
                obtain ⟨j, rfl, j10, c9, cj, fj, hgo⟩ := hX.out.bounds
                have j0 : ¬ (j : Int) < 0 := by omega
                have j1 : ¬ (9 : Int) < (j : Int) := by omega
                have j2 : (0 : Int) ≤ (j : Int) := by omega
                have j3 : (j : Int) < 10 := by omega
                have c10 : ¬ (10 : Int) < (c : Int) := by omega
                clear hX
                go_wp2_with fail
                go_roundw
                case rel => exact ⟨c + 1, by go_num, by omega, hgo⟩
                case measure => simp [RowKit.intOf]; omega
              | false =>
                have hT : Tk false w wr p n g c := by rcases hst.out with ⟨h, _⟩ | ⟨_, h⟩; cases h; exact h
                have ct := tk_take hT hn hk
                clear hst hT
                go_wp2_with fail
                with_reducible refine Calls.mono ct ?_
                rintro e we ⟨x2, b, c2, rfl, hst⟩
                have hst : Hid (Lp w we p n g c c2 x2) := Lib.hid hst
                clear ct
                go_wp2_with fail
                go_roundw
                case rel => exact ⟨k + 1, c2, x2, rfl, rfl, by go_num, by omega, hst⟩
                case measure => simp [RowKit.intOf]; omega
            · have k2 : ¬ (k : Int) < 16 := by omega
              cases ok with
              | true =>
                have hX : Hid (Tx false w wr p n g c x) := Lib.hid (by rcases hst.out with ⟨_, h⟩ | ⟨h, _⟩; exact h; cases h)
                clear hst
                obtain ⟨j, rfl, j10, c9, cj, fj, hgo⟩ := hX.out.bounds
                have j0 : ¬ (j : Int) < 0 := by omega
                have j1 : ¬ (9 : Int) < (j : Int) := by omega
                have j2 : (0 : Int) ≤ (j : Int) := by omega
                have j3 : (j : Int) < 10 := by omega
                have c10 : ¬ (10 : Int) < (c : Int) := by omega
                clear hX
                go_wp2_with fail
                go_roundw
                case rel => exact ⟨c + 1, by go_num, by omega, hgo⟩
                case measure => simp [RowKit.intOf]; omega
              | false =>
                have hT : Tk false w wr p n g c := by rcases hst.out with ⟨h, _⟩ | ⟨_, h⟩; cases h; exact h
                obtain ⟨Q, F, hO, hI, _, _⟩ := hT
                have hGo := Lib.hid (gone_of hO hI)
                clear hst hO hI
                go_wp2_with fail
                have cD0 := hGo.out
                clear hGo
                go_loopw [15] (fun v wx => ∃ i : Nat, v = .int .i64 i ∧ i ≤ 10 ∧ Hid (Gone w wx p n g i F)) (fun v _ => (10 - (RowKit.intOf v).toNat))
                case atStart => exact ⟨0, rfl, by omega, Lib.hid cD0⟩
                case round =>
                  clear cD0
                  obtain ⟨i, rfl, i1, hG⟩ := hrel
                  by_cases hi : i < 10
                  · have i2 : (i : Int) < 10 := by omega
                    have i0 : (0 : Int) ≤ (i : Int) := by omega
                    obtain ⟨b, hb⟩ : ∃ b, F i = b := ⟨_, rfl⟩
                    have hbb : (b != b) = false := by cases b <;> rfl
                    have cg : wr.cell? ⟨g, i, none⟩ = some (.bool b) := by obtain ⟨Q, h1, _⟩ := hG.out; rw [h1.cell hi, hb]
                    have cD : Hid (∀ W, Below wr.heap.size wr W → Calls Try.prog 22 #[.pointer (some ⟨p, 0, none⟩), .int .i64 i] W fun e w5 => e = .returned (.bool b) ∧ w5.cell? ⟨g, i, none⟩ = some (.bool b) ∧ Hid (Gone w w5 p n g (i + 1) F)) := Lib.hid fun W hW => (gone_del (hG.out.below hW) hi hn).mono fun e w5 ⟨he, h5⟩ => by
                      refine ⟨by rw [he, hb], ?_, Lib.hid h5⟩
                      obtain ⟨Q, h1, _⟩ := h5
                      rw [h1.cell hi, hb]
                    clear hG hb
                    have hbd : Below wr.heap.size wr wr.drew := (Below.refl _ _).drew
                    go_wp2_with fail
                    refine wp_region_held_drew (S := fun W' => W'.cell? ⟨g, i, none⟩ = some (.bool b)) (by kernel_rfl) (by exact cg) (fun hHeld => ?_)
                    try (refine wpAnyH_take (i := 0) rfl (by kernel_rfl) (by decide +kernel) (by decide +kernel) (fun _ _ _ h => h) (Or.inl ⟨by kernel_rfl, by (intro w hSw; (try dsimp only at hSw); go_simp; try with_reducible rfl)⟩) (by assumption) ?_; try simp only [Act.put, List.getElem_toArray, List.getElem_cons_zero, List.setIfInBounds_toArray, List.set_cons_zero, List.set_cons_succ])
                    try (refine wpAnyH_take (i := 1) rfl (by kernel_rfl) (by decide +kernel) (by decide +kernel) (fun _ _ _ h => h) (Or.inl ⟨by kernel_rfl, by (intro w hSw; (try dsimp only at hSw); go_simp; try with_reducible rfl)⟩) (by assumption) ?_; try simp only [Act.put, List.getElem_toArray, List.getElem_cons_succ, List.getElem_cons_zero, List.setIfInBounds_toArray, List.set_cons_zero, List.set_cons_succ])
                    try (refine wpAnyH_take (i := 3) rfl (by kernel_rfl) (by decide +kernel) (by decide +kernel) (fun _ _ _ h => h) (Or.inl ⟨by kernel_rfl, by (intro w hSw; (try dsimp only at hSw); go_simp; try with_reducible rfl)⟩) (by assumption) ?_; try simp only [Act.put, List.getElem_toArray, List.getElem_cons_succ, List.getElem_cons_zero, List.setIfInBounds_toArray, List.set_cons_zero, List.set_cons_succ])
                    try (refine wpAnyH_take (i := 4) rfl (by kernel_rfl) (by decide +kernel) (by decide +kernel) (fun _ _ _ h => h) (Or.inl ⟨by kernel_rfl, by (intro w hSw; (try dsimp only at hSw); go_simp; try with_reducible rfl)⟩) (by assumption) ?_; try simp only [Act.put, List.getElem_toArray, List.getElem_cons_succ, List.getElem_cons_zero, List.setIfInBounds_toArray, List.set_cons_zero, List.set_cons_succ])
                    try (refine wpAnyH_take (i := 5) rfl (by kernel_rfl) (by decide +kernel) (by decide +kernel) (fun _ _ _ h => h) (Or.inl ⟨by kernel_rfl, by (intro w hSw; (try dsimp only at hSw); go_simp; try with_reducible rfl)⟩) (by assumption) ?_; try simp only [Act.put, List.getElem_toArray, List.getElem_cons_succ, List.getElem_cons_zero, List.setIfInBounds_toArray, List.set_cons_zero, List.set_cons_succ])
                    try (refine wpAnyH_take (i := 6) rfl (by kernel_rfl) (by decide +kernel) (by decide +kernel) (fun _ _ _ h => h) (Or.inl ⟨by kernel_rfl, by (intro w hSw; (try dsimp only at hSw); go_simp; try with_reducible rfl)⟩) (by assumption) ?_; try simp only [Act.put, List.getElem_toArray, List.getElem_cons_succ, List.getElem_cons_zero, List.setIfInBounds_toArray, List.set_cons_zero, List.set_cons_succ])
                    refine wpAnyH_ready (rs := [2]) (by decide +kernel) (by simp) ?_
                    refine AllReadyH.cons rfl (fun K hK => ?_) AllReadyH.nil
                    (go_simp; (go_at_call 22; ((with_reducible refine (cD.out _ (by repeat (first | assumption | exact Below.refl _ _ | refine below_drewN ?_ _ | refine below_alloc ?_ _ | refine below_then ?_ (by assumption)))).mono ?_); rintro e w5 ⟨rfl, c1', hgo⟩)))
                    try go_simp
                    refine hK.out _ _ (by first | assumption | exact c1') (fun hHeld => ?_)
                    clear hK K
                    try simp only [Act.put, List.getElem_toArray, List.getElem_cons_succ, List.getElem_cons_zero, List.setIfInBounds_toArray, List.set_cons_zero, List.set_cons_succ]
                    try (refine wpAnyH_take (i := 7) rfl (by kernel_rfl) (by decide +kernel) (by decide +kernel) (fun _ _ _ h => h) (Or.inl ⟨by kernel_rfl, by (intro w hSw; (try dsimp only at hSw); go_simp; try with_reducible rfl)⟩) (by assumption) ?_; try simp only [Act.put, List.getElem_toArray, List.getElem_cons_succ, List.getElem_cons_zero, List.setIfInBounds_toArray, List.set_cons_zero, List.set_cons_succ])
                    try (refine wpAnyH_take (i := 8) rfl (by kernel_rfl) (by decide +kernel) (by decide +kernel) (fun _ _ _ h => h) (Or.inl ⟨by kernel_rfl, by (intro w hSw; (try dsimp only at hSw); go_simp; try with_reducible rfl)⟩) (by assumption) ?_; try simp only [Act.put, List.getElem_toArray, List.getElem_cons_succ, List.getElem_cons_zero, List.setIfInBounds_toArray, List.set_cons_zero, List.set_cons_succ])
                    try (refine wpAnyH_take (i := 9) rfl (by kernel_rfl) (by decide +kernel) (by decide +kernel) (fun _ _ _ h => h) (Or.inl ⟨by kernel_rfl, by (intro w hSw; (try dsimp only at hSw); go_simp; try with_reducible rfl)⟩) (by assumption) ?_; try simp only [Act.put, List.getElem_toArray, List.getElem_cons_succ, List.getElem_cons_zero, List.setIfInBounds_toArray, List.set_cons_zero, List.set_cons_succ])
                    try (refine wpAnyH_take (i := 10) rfl (by kernel_rfl) (by decide +kernel) (by decide +kernel) (fun _ _ _ h => h) (Or.inl ⟨by kernel_rfl, by (intro w hSw; (try dsimp only at hSw); go_simp; try with_reducible rfl)⟩) (by assumption) ?_; try simp only [Act.put, List.getElem_toArray, List.getElem_cons_succ, List.getElem_cons_zero, List.setIfInBounds_toArray, List.set_cons_zero, List.set_cons_succ])
                    try (refine wpAnyH_take (i := 11) rfl (by kernel_rfl) (by decide +kernel) (by decide +kernel) (fun _ _ _ h => h) (Or.inr ⟨by kernel_rfl, rfl⟩) (by assumption) ?_; try simp only [Act.put, List.getElem_toArray, List.getElem_cons_succ, List.getElem_cons_zero, List.setIfInBounds_toArray, List.set_cons_zero, List.set_cons_succ])
                    try (refine wpAnyH_take (i := 12) rfl (by kernel_rfl) (by decide +kernel) (by decide +kernel) (fun _ _ _ h => h) (Or.inr ⟨by kernel_rfl, rfl⟩) (by assumption) ?_; try simp only [Act.put, List.getElem_toArray, List.getElem_cons_succ, List.getElem_cons_zero, List.setIfInBounds_toArray, List.set_cons_zero, List.set_cons_succ])
                    try (refine wpAnyH_take (i := 13) rfl (by kernel_rfl) (by decide +kernel) (by decide +kernel) (fun _ _ _ h => h) (Or.inr ⟨by kernel_rfl, rfl⟩) (by assumption) ?_; try simp only [Act.put, List.getElem_toArray, List.getElem_cons_succ, List.getElem_cons_zero, List.setIfInBounds_toArray, List.set_cons_zero, List.set_cons_succ])
                    try (refine wpAnyH_take (i := 14) rfl (by kernel_rfl) (by decide +kernel) (by decide +kernel) (fun _ _ _ h => h) (Or.inr ⟨by kernel_rfl, rfl⟩) (by assumption) ?_; try simp only [Act.put, List.getElem_toArray, List.getElem_cons_succ, List.getElem_cons_zero, List.setIfInBounds_toArray, List.set_cons_zero, List.set_cons_succ])
                    try (refine wpAnyH_take (i := 15) rfl (by kernel_rfl) (by decide +kernel) (by decide +kernel) (fun _ _ _ h => h) (Or.inl ⟨by kernel_rfl, by (intro w hSw; (try dsimp only at hSw); go_simp; try with_reducible rfl)⟩) (by assumption) ?_; try simp only [Act.put, List.getElem_toArray, List.getElem_cons_succ, List.getElem_cons_zero, List.setIfInBounds_toArray, List.set_cons_zero, List.set_cons_succ])
                    try (refine wpAnyH_take (i := 16) rfl (by kernel_rfl) (by decide +kernel) (by decide +kernel) (fun _ _ _ h => h) (Or.inl ⟨by kernel_rfl, by (intro w hSw; (try dsimp only at hSw); go_simp; try with_reducible rfl)⟩) (by assumption) ?_; try simp only [Act.put, List.getElem_toArray, List.getElem_cons_succ, List.getElem_cons_zero, List.setIfInBounds_toArray, List.set_cons_zero, List.set_cons_succ])
                    refine wpAnyH_done (by kernel_rfl) ?_ _
                    all_goals
                      clear hbd cD cg hbb
                      go_wp2_with fail
                      go_roundw
                      case rel => exact ⟨i + 1, by go_num, by omega, hgo⟩
                      case measure => simp [RowKit.intOf]; omega
                  · obtain rfl : i = 10 := by omega
                    have ct := told_any wr
                    go_wp2_with fail
                    with_reducible refine Calls.mono ct ?_
                    rintro e wg ⟨rfl, hb⟩
                    have h2 := hG.out.below hb
                    have cu := h2.uns hn
                    have hbel : Below w.heap.size w wg := by obtain ⟨Q, h3, _⟩ := h2; exact h3.bel
                    replace hbel := Lib.hid hbel
                    clear ct hb h2 hG
                    go_wp2_with fail
                    with_reducible refine Calls.mono cu ?_
                    rintro e wh ⟨rfl, ew⟩
                    subst ew
                    clear cu
                    go_wp2_with fail
                    go_ret
                    exact ⟨rfl, hbel.out⟩

set_option maxRecDepth 100000 in
theorem lifted (os : Os) (started : os.Started) (H : Type) (enc : TypeId × Value → H) :
    ReturnsInHanded {} Try.checked os 5 .any (Rows.centralOnceSpec.pre6 enc Try.prog Try.f5 Rows.centralOnceRow.domain false) (Rows.centralOnceSpec.post enc Try.prog Try.f5 false true false false) := by
  refine returnsInHanded_of_change (C := Try.checked) own started (by kernel_rfl) Try.func5
    (ChangeSpec.witness6 (enc := enc) (C := Try.checked) false ⟨#[], #[.slice none 0 0, .bool false], []⟩ 8 (by kernel_rfl) (by kernel_rfl) (by kernel_rfl) (by kernel_rfl)) ?_
  intro W base args ds gs before hval0 hW hcnd _
  have hval : ∀ (j : Nat) t v, Try.f5.params[j]? = some t → args[j]? = some v → Value.okWide Try.prog W .any base t v := hval0
  have hW' := hW
  obtain ⟨p, q, hA0, hV, rfl, hfz, hnd⟩ := hW
  have hA : DataW.TrodAll enc Try.prog W 0 (fun _ => true) true Try.f5.params.toList args.toList ds p := hA0
  rw [Try.params5] at hA hval
  obtain ⟨v0, vs0, d0, ds0, p0, q0, hargs, rfl, rfl, h0, r0⟩ := trodAll_cons hA
  obtain ⟨v1, vs1, d1, ds1, p1, q1, rfl, rfl, rfl, h1, r1⟩ := trodAll_cons r0
  obtain ⟨rfl, rfl, rfl⟩ := trodAll_nil r1
  obtain rfl : args = #[v0, v1] := by cases args; simp_all
  obtain ⟨rfl, rfl⟩ := trodVars_none hV
  obtain ⟨zb0, i0⟩ := op8_arg (hval 0 47 v0 rfl rfl) h0
  obtain ⟨a1, rfl, rfl, rfl⟩ := open_bool Try.underlying4 (hval 1 4 v1 rfl rfl) h1
  clear hA0 hval0
  simp only [List.append_nil] at hW'
  have lt0 : ∀ x ∈ p0, x.block < W.heap.size := fun x hx => by have := hW'.lt x (by simp [hx]); simpa using this
  refine (walk v0 zb0 a1 W i0).mono fun e W' ⟨he, hg⟩ => ?_
  subst he
  exact ⟨_, rfl, post_of_kept (pa := _) (pv := []) hW' (fun _ _ _ => (trodAll_cons_mk (shut_bool Try.underlying4 _) trodAll_mk0)) (trodAll_cons_mk (Below.trod laidOut (by kernel_rfl) (of_decide_eq_true (by kernel_rfl)) h0 hg lt0) (trodAll_cons_mk (shut_bool Try.underlying4 _) trodAll_mk0)) (fun _ _ => rfl) (by simp) hg⟩

theorem over : Rows.centralOnceRow.holds Try.pinned (OpenSpec.ofChange Rows.centralOnceSpec) :=
  OpenClaim.holds_of_wide 5 Try.f5 rfl rfl rfl rfl rfl rfl rfl ⟨rfl, rfl, rfl, rfl, rfl⟩ rfl rfl rfl rfl rfl (by kernel_rfl) Try.func5 (by kernel_rfl)
    (of_decide_eq_true (by kernel_rfl)) (by unfold Func.isWrapper; first | (rw [if_pos (by decide +kernel)]; kernel_rfl) | (rw [if_neg (by decide +kernel)]; exact ⟨rfl, rfl⟩))
    (fun os started H enc _ => lifted os started H enc)

theorem proved : Rows.CentralOnceSaid :=
  over
#print axioms proved
end Go.Proofs.Ytejijddhmckgiaa.centralOnce
