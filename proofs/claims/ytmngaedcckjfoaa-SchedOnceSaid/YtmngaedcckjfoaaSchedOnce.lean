/- For any whole numbers and any list of operations the statement SchedOnce answers true and leaves its arguments as they were: each stands in one place till it is picked, and is picked once. No condition. -/
import Derived.Test.YtmngaedcckjfoaaHome
import Derived.Test.YtmngaedcckjfoaaSchedTold
import Derived.Test.YtmngaedcckjfoaaOnceMath
import Derived.Test.YtmngaedcckjfoaaOp27
import Derived.WalkKit
import Derived.ProofKit
import Derived.OpenShut
import Derived.Deep.RegionHeld3
import Derived.Deep.RegionWith
import Derived.Deep.Cut
import Derived.Deep.CutBlock
import Derived.Deep.CutRange
import Derived.Deep.LoopGhost
import Derived.Deep.DeepCutAuto
import Derived.RegionTactic
import Derived.StillTailTactics
namespace Go.Proofs.Ytmngaedcckjfoaa.schedOnce
open Go.ChangeShapes Go.WideShapes Go.ChangeAt Go.WideElems Go.RowKit Go.Lib Fx Ho Sd Rw
set_option linter.unusedVariables false

theorem own : ownKnob Try.prog.godebug = none := by kernel_rfl

/-- Bools as the cells of a row. -/
abbrev bcells (M : List Bool) : Array Value := (M.map Value.bool).toArray
theorem bcells_set (M : List Bool) (k : Nat) (b : Bool) : (bcells M).setIfInBounds k (.bool b) = bcells (M.set k b) := by
  unfold bcells; rw [List.setIfInBounds_toArray, List.map_set]
theorem bcells_get {M : List Bool} {i : Nat} (h : i < M.length) : (bcells M)[i]? = some (.bool (M.getD i true)) := by
  unfold bcells
  rw [List.getElem?_toArray, List.getElem?_map, List.getD_eq_getElem?_getD, List.getElem?_eq_getElem h]; rfl
theorem made_bools (n : Nat) : madeCells #[Value.bool false] n = bcells (List.replicate n false) := by
  unfold madeCells bcells
  apply Array.ext'
  simp only [List.map_replicate, Array.toList_map, Array.toList_range]
  refine List.ext_getElem (by simp) fun i h1 h2 => ?_
  simp [Nat.mod_one]
theorem infoB : (Try.prog.info? 4).map (fun i => (i.zero, i.size, i.bytes)) = some (some (.bool false), 1, 1) := by kernel_rfl
/-- A session, and the law's own number and row of who was picked. -/
structure On (W0 W : World) (p : Nat) (H : Home) (R : List Rg) (C : List Int) (kb b sb k : Nat) (S : List Bool) : Prop where
  s : Ss W0 W p H R C
  kc : W.heap[kb]? = some (.cells #[.int .i64 k] 3 (0, 0))
  bc : W.heap[b]? = some (.cells (bcells S) 4 (0, 0))
  sc : W.heap[sb]? = some (.cells #[.slice (some ⟨b, 0, none⟩) k k] 67 (0, 0))
  lo : W0.heap.size ≤ b
  o1 : ¬ H kb
  o2 : ¬ H b
  o3 : ¬ H sb
  n1 : kb ≠ b
  n2 : sb ≠ b
namespace On
variable {W0 W W' : World} {p : Nat} {H H' : Home} {R R' : List Rg} {C C' : List Int} {kb b sb k : Nat} {S : List Bool}
theorem below (h : On W0 W p H R C kb b sb k S) (hb : Below W.heap.size W W') : On W0 W' p H R C kb b sb k S :=
  ⟨h.s.below hb, (hb.block _ (block_lt h.kc)).trans h.kc, (hb.block _ (block_lt h.bc)).trans h.bc, (hb.block _ (block_lt h.sc)).trans h.sc, h.lo, h.o1, h.o2, h.o3, h.n1, h.n2⟩
theorem step (h : On W0 W p H R C kb b sb k S) (hw : Wrote H W H' W') (hs : Ss W0 W' p H' R' C') : On W0 W' p H' R' C' kb b sb k S := by
  have off : ∀ x, x < W.heap.size → ¬ H x → ¬ H' x := fun x hx hn hh => (hw.home x hh).elim hn (fun h2 => by omega)
  have l1 := block_lt h.kc
  have l2 := block_lt h.bc
  have l3 := block_lt h.sc
  exact ⟨hs, (hw.block _ l1 h.o1).trans h.kc, (hw.block _ l2 h.o2).trans h.bc, (hw.block _ l3 h.o3).trans h.sc, h.lo, off _ l1 h.o1, off _ l2 h.o2, off _ l3 h.o3, h.n1, h.n2⟩
theorem put (h : On W0 W p H R C kb b sb k S) (x : Nat) : On W0 (W.setCell ⟨b, x, none⟩ (.bool true)) p H R C kb b sb k (S.set x true) := by
  have hw : Wrote (fun k => k = b) W (fun k => k = b) (W.setCell ⟨b, x, none⟩ (.bool true)) := wrote_setCell (H := fun k => k = b) (a := ⟨b, x, none⟩) (u := .bool true) rfl rfl rfl rfl rfl
  refine ⟨h.s.wrote hw (fun k hk e => h.o2 (e ▸ hk)) (fun k hk => by rw [show k = b from hk]; exact h.lo), (hw.block _ (block_lt h.kc) h.n1).trans h.kc, ?_, (hw.block _ (block_lt h.sc) h.n2).trans h.sc, h.lo, h.o1, h.o2, h.o3, h.n1, h.n2⟩
  rw [heap_setCell_same _ b x _ _ _ h.bc, bcells_set]
end On
theorem modq {X : Int} {n : Nat} (hX : 0 ≤ X) (h1 : 1 ≤ n) (h8 : n ≤ 8) : ∃ q : Nat, wrap64 (X.tmod n) = (q : Int) ∧ q < n := by
  have h2 := Int.emod_nonneg X (show (n : Int) ≠ 0 by omega)
  have h3 := Int.emod_lt_of_pos X (show (0 : Int) < n by omega)
  refine ⟨(X % n).toNat, ?_, by omega⟩
  rw [Int.tmod_eq_emod_of_nonneg hX, show wrap64 (X % n) = X % n from IntWalk.wrap64_in _ ⟨by omega, by omega⟩]; omega
set_option maxRecDepth 100000 in
theorem take_one {W0 W : World} {p : Nat} {H : Home} {R : List Rg} {C : List Int} {kb b sb k : Nat} {S : List Bool} (h : On W0 W p H R C kb b sb k S) (hS : S.length = k) (hk6 : k ≤ 600) {x : Nat} (hx : x < k) (hs : S.getD x true = false) :
    Calls Try.prog 46 #[.int .i64 x, .pointer (some ⟨kb, 0, none⟩), .pointer (some ⟨sb, 0, none⟩)] W fun e W' => e = .returned (.bool true) ∧ On W0 W' p H R C kb b sb k (S.set x true) := by
  have c0 := cell_of h.kc (j := 0) rfl
  have c1 := cell_of h.sc (j := 0) rfl
  have c2 := cell_of h.bc (bcells_get (by omega : x < S.length))
  have f2 := frozen_of_row W b x _ _ h.bc
  rw [hs] at c2
  have i0 : ¬ (x : Int) < 0 := by omega
  have i1 : ¬ ((k : Int) ≤ (x : Int)) := by omega
  have i2 : (0 : Int) ≤ (x : Int) := by omega
  have i3 : (x : Int) < (k : Int) := by omega
  have hend := Lib.hid (h.put x)
  clear h hs hS
  go_enter Try.func46, Try.ntmps46
  go_wp2_with fail
  go_ret
  exact ⟨rfl, hend.out⟩
set_option maxRecDepth 100000 in
set_option maxHeartbeats 4000000 in
theorem walk (a0 : Int) (a1 : Int) (v2 : Value) (zb2 : List _) (w : World) (w0 : (Lit.int .i64 a0).wf = true) (w1 : (Lit.int .i64 a1).wf = true) (h2 : Op27 w v2 zb2) :
    Calls Try.prog 7 #[.int .i64 a0, .int .i64 a1, v2] w fun e w' => e = .returned (.bool true) ∧ Below w.heap.size w w' := by
  obtain ⟨Z, hZ⟩ : ∃ Z : Int, IntKind.u64.wrap a0 = Z := ⟨_, rfl⟩
  have z1 : 0 ≤ Z := by rw [← hZ, IntKind.wrap_u64]; omega
  obtain ⟨Y, hY⟩ : ∃ Y : Int, IntKind.u64.wrap a1 = Y := ⟨_, rfl⟩
  have y1 : 0 ≤ Y := by rw [← hY, IntKind.wrap_u64]; omega
  obtain ⟨k, hk⟩ : ∃ k : Nat, Z % 601 = (k : Int) := ⟨(Z % 601).toNat, by omega⟩
  have k6 : k ≤ 600 := by omega
  obtain ⟨n, hn⟩ : ∃ n : Nat, 1 + Y % 8 = (n : Int) := ⟨(1 + Y % 8).toNat, by omega⟩
  have n1 : 1 ≤ n := by omega
  have n8 : n ≤ 8 := by omega
  obtain ⟨sp, cap, rfl, hm, hc⟩ := h2
  obtain ⟨l, hl⟩ : ∃ l, zb2.length = l := ⟨_, rfl⟩
  rw [hl] at hm hc ⊢
  have hcells : Hid (∀ wr, Below w.heap.size w wr → ∀ i, i < l → ∃ b off x0 x1 x2 x3 x4 x5, sp = some ⟨b, off, none⟩ ∧ wr.cell? ⟨b, off + i * 6, none⟩ = some (.int .i64 x0) ∧ wr.cell? ⟨b, off + i * 6 + 1, none⟩ = some (.int .i64 x1) ∧ wr.cell? ⟨b, off + i * 6 + 2, none⟩ = some (.int .i64 x2) ∧ wr.cell? ⟨b, off + i * 6 + 3, none⟩ = some (.int .i64 x3) ∧ wr.cell? ⟨b, off + i * 6 + 4, none⟩ = some (.int .i64 x4) ∧ wr.cell? ⟨b, off + i * 6 + 5, none⟩ = some (.bool x5)) := Lib.hid fun wr hb i hi => by
    obtain ⟨b, off, e, _, d0, d1, d2, d3, d4, d5⟩ := hc i hi
    have t : ∀ {j : Nat} {v : Value}, w.cell? ⟨b, off + (i * 6 + j), none⟩ = some v → wr.cell? ⟨b, off + i * 6 + j, none⟩ = some v := fun {j v} h => by have := cell_then hb h; rwa [← Nat.add_assoc] at this
    exact ⟨b, off, _, _, _, _, _, _, e, cell_then hb d0, t d1, t d2, t d3, t d4, t d5⟩
  have hmk := run_make_row' (P := Try.prog) 67 4 (.bool false) 1 Try.underlying67 infoB rfl .i64 .i64 k (by omega) (by omega)
  rw [made_bools] at hmk
  have hmf : ∀ (fn : Fn) (first cap : Array Value) (w : World), (Instr.makeFunc fn first cap).run Try.prog w = .ok (.func fn first cap) w := fun _ _ _ _ => rfl
  have cn := new_any n n1 (by omega) w
  clear hc hl
  go_enter Try.func7, Try.ntmps7
  go_wp2_with fail
  with_reducible refine Calls.mono (cn) ?_
  rintro e w1 ⟨p, H, rfl, hs⟩
  replace hs := Lib.hid hs
  clear cn
  clear hY y1 hn
  go_wp2_with fail
  have hS : Hid (On w (((w1.alloc (.cells #[.int .i64 k] 3)).alloc (.cells (bcells (List.replicate k false)) 4)).alloc (.cells #[.slice (some ⟨w1.heap.size + 1, 0, none⟩) k k] 67)) p H (List.replicate n rg0) [] w1.heap.size (w1.heap.size + 1) (w1.heap.size + 1 + 1) k (List.replicate k false)) := Lib.hid (by
    have sz : ∀ (w : World) (o : Obj), (w.alloc o).heap.size = w.heap.size + 1 := fun w o => by show (w.heap.push _).size = _; rw [Array.size_push]
    have hb1 := below_alloc (Below.refl _ w1) (.cells #[.int .i64 k] 3)
    have hb2 := below_alloc (Below.refl _ (w1.alloc (.cells #[.int .i64 k] 3))) (.cells (bcells (List.replicate k false)) 4)
    have hb3 := below_alloc (Below.refl _ ((w1.alloc (.cells #[.int .i64 k] 3)).alloc (.cells (bcells (List.replicate k false)) 4))) (.cells #[.slice (some ⟨w1.heap.size + 1, 0, none⟩) k k] 67)
    have hlt : ∀ k', H k' → k' < w1.heap.size := fun k' h => hs.out.lt h
    have e1 := heap_alloc_new w1 (.cells #[.int .i64 k] 3)
    have e2 := heap_alloc_new (w1.alloc (.cells #[.int .i64 k] 3)) (.cells (bcells (List.replicate k false)) 4)
    have e3 := heap_alloc_new ((w1.alloc (.cells #[.int .i64 k] 3)).alloc (.cells (bcells (List.replicate k false)) 4)) (.cells #[.slice (some ⟨w1.heap.size + 1, 0, none⟩) k k] 67)
    rw [sz] at e2
    rw [sz, sz] at e3
    refine ⟨((hs.out.below hb1).below hb2).below hb3, ?_, ?_, e3, by have := hs.out.out.size; omega, fun h => by have := hlt _ h; omega, fun h => by have := hlt _ h; omega, fun h => by have := hlt _ h; omega, by omega, by omega⟩
    · rw [hb3.block _ (by rw [sz, sz]; omega), hb2.block _ (by rw [sz]; omega)]; exact e1
    · rw [hb3.block _ (by rw [sz, sz]; omega)]; exact e2)
  generalize (((w1.alloc (.cells #[.int .i64 k] 3)).alloc (.cells (bcells (List.replicate k false)) 4)).alloc (.cells #[.slice (some ⟨w1.heap.size + 1, 0, none⟩) k k] 67)) = w2 at hS ⊢
  generalize w1.heap.size + 1 + 1 = sb at hS ⊢
  generalize w1.heap.size + 1 = b at hS ⊢
  generalize w1.heap.size = kb at hS ⊢
  have hC0 := Lib.hid (cnt0 n k)
  have hR0 : Hid ((List.replicate n rg0).length = n) := Lib.hid (List.length_replicate)
  clear hs hmk hmf hZ z1 hk
  go_loopw [13, 14] (fun u x wr => ∃ (i left : Nat) (H : Home) (R : List Rg) (C : List Int) (S : List Bool), u = .int .i64 left ∧ x = .int .i64 i ∧ i ≤ k ∧ left ≤ i ∧ Hid (On w wr p H R C kb b sb k S) ∧ Hid (Cnt R C S i k left) ∧ Hid (R.length = n)) (fun _ x _ => (k - (RowKit.intOf x).toNat))
  case atStart => exact ⟨0, 0, H, _, _, _, rfl, rfl, by omega, by omega, hS, hC0, hR0⟩
  case round =>
    clear hS hC0 hR0
    obtain ⟨i, left, H, R, C, S, rfl, rfl, i1, l1, hO, hC, hRn⟩ := hrel
    have k0 := cell_of hO.out.kc (j := 0) rfl
    by_cases hi : i < k
    · have i2 : (i : Int) < (k : Int) := by omega
      have i0 : (0 : Int) ≤ (i : Int) := by omega
      obtain ⟨z, hz⟩ : ∃ z, wr.heap.size = z := ⟨_, rfl⟩
      have hzb : Hid (z ≠ kb ∧ z ≠ b ∧ z ≠ sb ∧ ¬ H z) := Lib.hid ⟨fun e => by have := block_lt hO.out.kc; omega, fun e => by have := block_lt hO.out.bc; omega, fun e => by have := block_lt hO.out.sc; omega, fun h => by have := hO.out.s.lt h; omega⟩
      by_cases hil : i < l
      · have i3 : (i : Int) < (l : Int) := by omega
        have hbI := below_alloc (Below.refl wr.heap.size wr) (.cells #[.int .i64 0, .int .i64 i, .int .i64 0, .int .i64 0, .int .i64 0, .bool ((i : Int) % 3 == 0)] 49)
        obtain ⟨b0, off, x0, x1, x2, x3, x4, x5, rfl, d0, d1, d2, d3, d4, d5⟩ := hcells.out _ (hO.out.s.out.trans (hbI.mono hO.out.s.out.size)) i hil
        clear hbI
        have hbA := below_alloc (Below.refl _ wr) (.cells #[.int .i64 (x0), .int .i64 (x1), .int .i64 (x2), .int .i64 (x3), .int .i64 (x4), .bool x5] 49)
        have hz0 : (wr.alloc (.cells #[.int .i64 (x0), .int .i64 (x1), .int .i64 (x2), .int .i64 (x3), .int .i64 (x4), .bool x5] 49)).heap[z]? = some (.cells #[.int .i64 (x0), .int .i64 (x1), .int .i64 (x2), .int .i64 (x3), .int .i64 (x4), .bool x5] 49 (0, 0)) := by rw [← hz]; exact heap_alloc_new _ _
        obtain ⟨q, hq, hqn⟩ := modq (X := IntKind.u64.wrap x1) (by rw [IntKind.wrap_u64]; omega) n1 n8
        have hSi := Lib.hid (hC.out.rest i (Nat.le_refl _) hi)
        have hqR : q < R.length := by rw [hRn.out]; exact hqn
        have hO4 := Lib.hid (hO.out.below hbA)
        have cy := ready_in hO4.out.s hqR (i : Int) x5 (by have := hC.out.clen; omega)
        have hC5 := Lib.hid (hC.out.ready hi hqR x5)
        have hRn5 : Hid ((R.set q (rPut (R.getD q rg0) (i : Int) x5).1).length = n) := Lib.hid (by rw [List.length_set]; exact hRn.out)
        generalize R.set q (rPut (R.getD q rg0) (i : Int) x5).1 = R5 at *
        generalize C ++ (rPut (R.getD q rg0) (i : Int) x5).2 = C5 at *
        have n0 : (0 : Int) < (n : Int) := by omega
        have c0 := cell_of hz0 (j := 0) rfl
        have c1 := cell_of hz0 (j := 1) rfl
        have c5 := cell_of hz0 (j := 5) rfl
        replace hz0 := Lib.hid hz0
        clear hO hC hRn hqR hbA
        go_wp2_with fail

        with_reducible refine Calls.mono cy ?_
        rintro e w5 ⟨rfl, H5, hw5, hs5⟩
        have hO5 := Lib.hid (hO4.out.step hw5 hs5)
        have hz5 : Hid (¬ H5 z) := Lib.hid (fun h => (hw5.home z h).elim hzb.out.2.2.2 (fun h2 => by have := block_lt hz0.out; omega))
        have hzc := Lib.hid ((hw5.block z (block_lt hz0.out) hzb.out.2.2.2).trans hz0.out)
        clear cy hw5 hs5 hO4 hz0 c0 c1 c5
        have ch := where_any hO5.out.s (i : Int) (by have := hC5.out.clen; omega)
        obtain ⟨zz, hzz⟩ := where_in (hC5.out.there (x := i) (by omega) hSi.out)
        rw [hzz] at ch
        clear hzz
        go_wp2_with fail
        with_reducible refine Calls.mono ch ?_
        rintro e w6 ⟨rfl, hb6⟩
        have hO6 := Lib.hid (hO5.out.below hb6)
        have hzd := Lib.hid ((hb6.block z (block_lt hzc.out)).trans hzc.out)
        have c0 := cell_of hzd.out (j := 0) rfl
        clear ch hb6 hzc hO5

        obtain ⟨m, hm3⟩ : ∃ m, bits .and .i64 x0 3 = m := ⟨_, rfl⟩
        by_cases h3 : m = 3
        · subst h3
          obtain ⟨v, hv⟩ : ∃ v, x4.tmod n = v := ⟨_, rfl⟩
          have c3 := cell_of hzd.out (j := 3) rfl
          have c4 := cell_of hzd.out (j := 4) rfl
          have nz : ¬ n = 0 := by omega
          have hqR5 : q < R5.length := by rw [hRn5.out]; exact hqn
          have hlenp := Lib.hid (pick_len (R := R5) (C := C5) (i := q) (t := x3) (v := v))
          rcases hps : pickS R5 C5 q x3 v with ⟨_ | g, R6, C6⟩
          · have hno := pick_nobody (R := R5) (C := C5) (i := q) (t := x3) (v := v) hqR5 (by rw [hps])
            rw [hps] at hno
            obtain ⟨e1, e2⟩ := Prod.mk.inj hno.1
            subst e1 e2
            clear hno hlenp
            have cph : Hid (∀ W', Below w6.heap.size w6 W' → Calls Try.prog 34 #[.pointer (some ⟨p, 0, none⟩), .int .i64 q, .int .i64 x3, .int .i64 v] W' fun e w8 => e = .returned (.tuple #[.int .i64 0, .bool false]) ∧ (w8.cell? ⟨z, 3, none⟩ = some (.int .i64 x3) ∧ w8.cell? ⟨z, 4, none⟩ = some (.int .i64 x4)) ∧ Hid (∃ H8, On w w8 p H8 R6 C6 kb b sb k S)) := Lib.hid fun W' hb => by
              have hO7 := hO6.out.below hb
              have hz7 := (hb.block z (block_lt hzd.out)).trans hzd.out
              have cp := pick_in hO7.s hqR5 x3 v (by rw [hRn5.out]; omega) (by have := hC5.out.clen; omega)
              rw [hps] at cp
              refine cp.mono fun e w8 ⟨he, H8, hw8, hs8⟩ => ⟨he, ?_, Lib.hid ⟨H8, hO7.step hw8 hs8⟩⟩
              have hz8 := (hw8.block z (block_lt hz7) hz5.out).trans hz7
              exact ⟨cell_of hz8 rfl, cell_of hz8 rfl⟩
            have hbd : Below w6.heap.size w6 w6.drew := (Below.refl _ _).drew
            replace hps := Lib.hid hps
            clear hO6
            go_wp2_with fail
            go_region_held3 (fun W' => W'.cell? ⟨z, 3, none⟩ = some (.int .i64 x3) ∧ W'.cell? ⟨z, 4, none⟩ = some (.int .i64 x4)) (first | exact ⟨c3, c4⟩ | go_keep | assumption | (go_split_ands; exact ⟨cell_then (by assumption) (by assumption), cell_then (by assumption) (by assumption)⟩)) (first | (go_at_call 34; ((with_reducible refine (cph.out _ (by repeat (first | assumption | exact Below.refl _ _ | refine below_drewN ?_ _ | refine below_alloc ?_ _ | refine below_then ?_ (by assumption)))).mono ?_); rintro e w8 ⟨rfl, hk8, hO8⟩)))
            all_goals
              obtain ⟨H8, hO8⟩ := hO8.out
              clear cph c3 c4 hk8 hzd hbd
              have hO9 := Lib.hid hO8
              have hC9 := hC5
              have hRn9 := hRn5
              clear hO8 hC5 hRn5 hzb hz5 hq hz hv hps
              have cl := len_any hO9.out.s (by have := hC9.out.clen; omega) (by rw [hRn9.out]; omega)
              rw [show (C6.length + sumR R6 R6.length : Nat) = (left + 1) from by rw [← fa_one]; exact hC9.out.sum] at cl

              go_wp2_with fail
              with_reducible refine Calls.mono cl ?_
              rintro e wl ⟨rfl, ml, rfl⟩
              have hOl := Lib.hid (hO9.out.below (below_drewN (Below.refl _ _) ml))
              clear cl hO9
              go_wp2_with fail
              go_roundw
              case rel => exact ⟨i + 1, (left + 1), H8, R6, C6, S, by go_num, by go_num, by omega, by omega, hOl, hC9, hRn9⟩
              case measure => simp [RowKit.intOf]; omega
          · obtain ⟨x, rfl, hxi, hsx, hl1, hC6⟩ := hC5.out.picked hqR5 hps
            rw [Nat.add_sub_cancel] at hC6
            rw [hps] at hlenp
            have hRn6 : Hid (R6.length = n) := Lib.hid (hlenp.out.trans hRn5.out)
            have hSl := hC5.out.len
            replace hsx := Lib.hid hsx
            replace hC6 := Lib.hid hC6
            replace hSl := Lib.hid hSl
            have cph : Hid (∀ W', Below w6.heap.size w6 W' → Calls Try.prog 34 #[.pointer (some ⟨p, 0, none⟩), .int .i64 q, .int .i64 x3, .int .i64 v] W' fun e w8 => e = .returned (.tuple #[.int .i64 x, .bool true]) ∧ (w8.cell? ⟨z, 3, none⟩ = some (.int .i64 x3) ∧ w8.cell? ⟨z, 4, none⟩ = some (.int .i64 x4)) ∧ Hid (∃ H8, On w w8 p H8 R6 C6 kb b sb k S)) := Lib.hid fun W' hb => by
              have hO7 := hO6.out.below hb
              have hz7 := (hb.block z (block_lt hzd.out)).trans hzd.out
              have cp := pick_in hO7.s hqR5 x3 v (by rw [hRn5.out]; omega) (by have := hC5.out.clen; omega)
              rw [hps] at cp
              refine cp.mono fun e w8 ⟨he, H8, hw8, hs8⟩ => ⟨he, ?_, Lib.hid ⟨H8, hO7.step hw8 hs8⟩⟩
              have hz8 := (hw8.block z (block_lt hz7) hz5.out).trans hz7
              exact ⟨cell_of hz8 rfl, cell_of hz8 rfl⟩
            have hbd : Below w6.heap.size w6 w6.drew := (Below.refl _ _).drew
            replace hps := Lib.hid hps
            clear hO6
            go_wp2_with fail
            go_region_held3 (fun W' => W'.cell? ⟨z, 3, none⟩ = some (.int .i64 x3) ∧ W'.cell? ⟨z, 4, none⟩ = some (.int .i64 x4)) (first | exact ⟨c3, c4⟩ | go_keep | assumption | (go_split_ands; exact ⟨cell_then (by assumption) (by assumption), cell_then (by assumption) (by assumption)⟩)) (first | (go_at_call 34; ((with_reducible refine (cph.out _ (by repeat (first | assumption | exact Below.refl _ _ | refine below_drewN ?_ _ | refine below_alloc ?_ _ | refine below_then ?_ (by assumption)))).mono ?_); rintro e w8 ⟨rfl, hk8, hO8⟩)))
            all_goals
              obtain ⟨H8, hO8⟩ := hO8.out
              clear cph c3 c4 hk8 hzd hbd
              have ct := take_one hO8 hSl.out k6 (x := x) (by omega) hsx.out
              clear hO8 hps hlenp hRn5 hC5 hl1
              go_wp2_with fail
              with_reducible refine Calls.mono ct ?_
              rintro e w9 ⟨rfl, hO9⟩
              replace hO9 := Lib.hid hO9
              have hC9 := hC6
              have hRn9 := hRn6
              clear ct hC6 hRn6 hsx hSl hzb hz5 hq hz hv
              have cl := len_any hO9.out.s (by have := hC9.out.clen; omega) (by rw [hRn9.out]; omega)
              rw [show (C6.length + sumR R6 R6.length : Nat) = left from by rw [← fa_one]; exact hC9.out.sum] at cl

              go_wp2_with fail
              with_reducible refine Calls.mono cl ?_
              rintro e wl ⟨rfl, ml, rfl⟩
              have hOl := Lib.hid (hO9.out.below (below_drewN (Below.refl _ _) ml))
              clear cl hO9
              go_wp2_with fail
              go_roundw
              case rel => exact ⟨i + 1, left, H8, R6, C6, (S.set x true), by go_num, by go_num, by omega, by omega, hOl, hC9, hRn9⟩
              case measure => simp [RowKit.intOf]; omega
        · have h3b : (m == 3) = false := by rw [beq_eq_false_iff_ne]; exact h3
          clear h3
          go_wp2_with fail

          have hO9 := hO6
          have hC9 := hC5
          have hRn9 := hRn5
          clear hO6 hC5 hRn5 c0 hzd hzb hz5 hq hz hm3 h3b

          have cl := len_any hO9.out.s (by have := hC9.out.clen; omega) (by rw [hRn9.out]; omega)
          rw [show (C5.length + sumR R5 R5.length : Nat) = (left + 1) from by rw [← fa_one]; exact hC9.out.sum] at cl

          with_reducible refine Calls.mono cl ?_
          rintro e wl ⟨rfl, ml, rfl⟩
          have hOl := Lib.hid (hO9.out.below (below_drewN (Below.refl _ _) ml))
          clear cl hO9
          go_wp2_with fail
          go_roundw
          case rel => exact ⟨i + 1, (left + 1), H5, R5, C5, S, by go_num, by go_num, by omega, by omega, hOl, hC9, hRn9⟩
          case measure => simp [RowKit.intOf]; omega
      · have i3 : ¬ ((i : Int) < (l : Int)) := by omega
        obtain ⟨y5, hy5⟩ : ∃ y5 : Bool, ((i : Int) % 3 == 0) = y5 := ⟨_, rfl⟩
        have hbA := below_alloc (Below.refl _ wr) (.cells #[.int .i64 (0), .int .i64 (i), .int .i64 (0), .int .i64 (0), .int .i64 (0), .bool y5] 49)
        have hz0 : (wr.alloc (.cells #[.int .i64 (0), .int .i64 (i), .int .i64 (0), .int .i64 (0), .int .i64 (0), .bool y5] 49)).heap[z]? = some (.cells #[.int .i64 (0), .int .i64 (i), .int .i64 (0), .int .i64 (0), .int .i64 (0), .bool y5] 49 (0, 0)) := by rw [← hz]; exact heap_alloc_new _ _
        obtain ⟨q, hq, hqn⟩ := modq (X := (i : Int)) (by omega) n1 n8
        rw [Int.tmod_eq_emod_of_nonneg (by omega)] at hq
        have hSi := Lib.hid (hC.out.rest i (Nat.le_refl _) hi)
        have hqR : q < R.length := by rw [hRn.out]; exact hqn
        have hO4 := Lib.hid (hO.out.below hbA)
        have cy := ready_in hO4.out.s hqR (i : Int) y5 (by have := hC.out.clen; omega)
        have hC5 := Lib.hid (hC.out.ready hi hqR y5)
        have hRn5 : Hid ((R.set q (rPut (R.getD q rg0) (i : Int) y5).1).length = n) := Lib.hid (by rw [List.length_set]; exact hRn.out)
        generalize R.set q (rPut (R.getD q rg0) (i : Int) y5).1 = R5 at *
        generalize C ++ (rPut (R.getD q rg0) (i : Int) y5).2 = C5 at *
        have n0 : (0 : Int) < (n : Int) := by omega
        have c0 := cell_of hz0 (j := 0) rfl
        have c1 := cell_of hz0 (j := 1) rfl
        have c5 := cell_of hz0 (j := 5) rfl
        replace hz0 := Lib.hid hz0
        clear hO hC hRn hqR hbA
        go_wp2_with fail

        with_reducible refine Calls.mono cy ?_
        rintro e w5 ⟨rfl, H5, hw5, hs5⟩
        have hO5 := Lib.hid (hO4.out.step hw5 hs5)
        have hz5 : Hid (¬ H5 z) := Lib.hid (fun h => (hw5.home z h).elim hzb.out.2.2.2 (fun h2 => by have := block_lt hz0.out; omega))
        have hzc := Lib.hid ((hw5.block z (block_lt hz0.out) hzb.out.2.2.2).trans hz0.out)
        clear cy hw5 hs5 hO4 hz0 c0 c1 c5
        have ch := where_any hO5.out.s (i : Int) (by have := hC5.out.clen; omega)
        obtain ⟨zz, hzz⟩ := where_in (hC5.out.there (x := i) (by omega) hSi.out)
        rw [hzz] at ch
        clear hzz
        go_wp2_with fail
        with_reducible refine Calls.mono ch ?_
        rintro e w6 ⟨rfl, hb6⟩
        have hO6 := Lib.hid (hO5.out.below hb6)
        have hzd := Lib.hid ((hb6.block z (block_lt hzc.out)).trans hzc.out)
        have c0 := cell_of hzd.out (j := 0) rfl
        clear ch hb6 hzc hO5

        have hm3 : bits .and .i64 0 3 = 0 := by decide
        go_wp2_with fail

        have hO9 := hO6
        have hC9 := hC5
        have hRn9 := hRn5
        clear hO6 hC5 hRn5 c0 hzd hzb hz5 hq hz hm3 hy5

        have cl := len_any hO9.out.s (by have := hC9.out.clen; omega) (by rw [hRn9.out]; omega)
        rw [show (C5.length + sumR R5 R5.length : Nat) = (left + 1) from by rw [← fa_one]; exact hC9.out.sum] at cl

        with_reducible refine Calls.mono cl ?_
        rintro e wl ⟨rfl, ml, rfl⟩
        have hOl := Lib.hid (hO9.out.below (below_drewN (Below.refl _ _) ml))
        clear cl hO9
        go_wp2_with fail
        go_roundw
        case rel => exact ⟨i + 1, (left + 1), H5, R5, C5, S, by go_num, by go_num, by omega, by omega, hOl, hC9, hRn9⟩
        case measure => simp [RowKit.intOf]; omega
    · obtain rfl : i = k := by omega
      have i2 : ¬ ((i : Int) < (i : Int)) := by omega
      obtain ⟨m, hm⟩ : ∃ m : Nat, max (n - 1) 1 = m := ⟨_, rfl⟩
      have hmx : max ((n : Int) - 1) 1 = (m : Int) := by omega
      have hmax := fun ts t w => run_max2 (P := Try.prog) hmx ts t w
      have hO2 := hO
      have hF0 := Lib.hid (fails0 R C m 0)
      have hbound : 0 ≤ 8 * (i - left) + 0 := by omega
      clear hO hcells
      go_wp2_with fail
      clear k0
      go_loopw [13, 21] (fun u x wr => ∃ (j left f : Nat) (H : Home) (R : List Rg) (C : List Int) (S : List Bool), u = .int .i64 left ∧ x = .int .i64 j ∧ left ≤ i ∧ f ≤ 7 ∧ j ≤ 8 * (i - left) + f ∧ Hid (On w wr p H R C kb b sb i S) ∧ Hid (Cnt R C S i i left) ∧ Hid (R.length = n) ∧ Hid (Fails R C m j f)) (fun _ x _ => (8 * i + 8 - (RowKit.intOf x).toNat))
      case atStart => exact ⟨0, left, 0, H, R, C, S, rfl, rfl, by omega, by omega, by omega, hO2, hC, hRn, hF0⟩
      case round =>
        clear hO2 hC hRn hF0 hbound l1
        obtain ⟨j, left, f, H, R, C, S, rfl, rfl, l1, f7, jb, hO, hC, hRn, hF⟩ := hrel
        by_cases hl0 : 0 < left
        · have i3 : (0 : Int) < (left : Int) := by omega
          have k0 := cell_of hO.out.kc (j := 0) rfl
          have j0 : (0 : Int) ≤ (j : Int) := by omega
          have m0 : (0 : Int) < (m : Int) := by omega
          have jm : (j : Int).tmod (m : Int) = ((j % m : Nat) : Int) := by rw [Int.tmod_eq_emod_of_nonneg (by omega)]; omega
          have jlt : j % m < m := Nat.mod_lt _ (by omega)
          have jbig : ¬ (20 * (i : Int) + 100 < (j : Int)) := by omega
          have hR0 : 0 < R.length := by rw [hRn.out]; omega
          have cp := pick_in hO.out.s (i := 0) hR0 (j : Int) ((1 + j % m : Nat) : Int) (by rw [hRn.out]; omega) (by have := hC.out.clen; omega)
          have hlenp := Lib.hid (pick_len (R := R) (C := C) (i := 0) (t := (j : Int)) (v := ((1 + j % m : Nat) : Int)))
          have hmore := Lib.hid (fun hno => hF.out.more (t := (j : Int)) (by rw [hRn.out]; exact hm.symm) (by rw [hRn.out]; exact n1) (by rw [hRn.out]; exact n8) (by rw [hC.out.sum]; exact hl0) hno)
          have hcast : ((1 + j % m : Nat) : Int) = 1 + ((j % m : Nat) : Int) := by omega
          rcases hps : pickS R C 0 (j : Int) ((1 + j % m : Nat) : Int) with ⟨_ | g, R6, C6⟩
          · have hno := pick_nobody (R := R) (C := C) (i := 0) (t := (j : Int)) (v := ((1 + j % m : Nat) : Int)) hR0 (by rw [hps])
            obtain ⟨hF2, f72⟩ := hmore.out (by rw [hps])
            rw [hps] at cp hno
            rw [hcast] at cp
            clear hcast
            obtain ⟨e1, e2⟩ := Prod.mk.inj hno.1
            replace cp : Calls Try.prog 34 #[.pointer (some ⟨p, 0, none⟩), .int .i64 0, .int .i64 j, .int .i64 (1 + ((j % m : Nat) : Int))] wr (Step (.tuple #[.int .i64 0, .bool false]) w wr p H R6 C6) := cp
            rw [e1, e2] at cp
            replace hF2 := Lib.hid hF2
            clear hno hps e1 e2 hlenp hmore hF hl0
            generalize j % m = jj at *
            go_wp2_with fail
            with_reducible refine Calls.mono cp ?_
            rintro e w8 ⟨rfl, H8, hw8, hs8⟩
            have hO9 := Lib.hid (hO.out.step hw8 hs8)
            clear cp hw8 hs8 hO k0
            go_wp2_with fail
            go_roundw
            case rel => exact ⟨j + 1, left, f + 1, H8, R, C, S, rfl, by go_num, by omega, by omega, by omega, hO9, hC, hRn, hF2⟩
            case measure => simp [RowKit.intOf]; omega
          · obtain ⟨x, rfl, hxi, hsx, hl1, hC6⟩ := hC.out.picked hR0 hps
            rw [hps] at cp hlenp
            rw [hcast] at cp
            clear hcast
            replace cp : Calls Try.prog 34 #[.pointer (some ⟨p, 0, none⟩), .int .i64 0, .int .i64 j, .int .i64 (1 + ((j % m : Nat) : Int))] wr (Step (.tuple #[.int .i64 x, .bool true]) w wr p H R6 C6) := cp
            have hRn6 : Hid (R6.length = n) := Lib.hid (hlenp.out.trans hRn.out)
            have hSl := Lib.hid hC.out.len
            replace hsx := Lib.hid hsx
            replace hC6 := Lib.hid hC6
            have hF6 := Lib.hid (fails0 R6 C6 m (j + 1))
            clear hps hlenp hRn hC hmore hF
            generalize j % m = jj at *
            go_wp2_with fail
            with_reducible refine Calls.mono cp ?_
            rintro e w8 ⟨rfl, H8, hw8, hs8⟩
            have hO8 := hO.out.step hw8 hs8
            have ct := take_one hO8 hSl.out k6 (x := x) hxi hsx.out
            clear cp hw8 hs8 hO hO8 k0
            go_wp2_with fail
            with_reducible refine Calls.mono ct ?_
            rintro e w9 ⟨rfl, hO9⟩
            replace hO9 := Lib.hid hO9
            clear ct hsx hSl
            go_wp2_with fail
            go_roundw
            case rel => exact ⟨j + 1, left - 1, 0, H8, R6, C6, _, by go_num, by go_num, by omega, by omega, by omega, hO9, hC6, hRn6, hF6⟩
            case measure => simp [RowKit.intOf]; omega
        · obtain rfl : left = 0 := by omega
          have i3 : ¬ ((0 : Int) < 0) := by omega
          have ct := told_any wr
          clear hF jb f7
          go_wp2_with fail
          with_reducible refine Calls.mono ct ?_
          rintro e w8 ⟨rfl, hb8⟩
          have hO9 := Lib.hid (hO.out.below hb8)
          have cl := len_any hO9.out.s (by have := hC.out.clen; omega) (by rw [hRn.out]; omega)
          rw [show (C.length + sumR R R.length : Nat) = 0 from by rw [← fa_one]; exact hC.out.sum] at cl
          clear ct hb8 hO
          go_wp2_with fail
          with_reducible refine Calls.mono cl ?_
          rintro e w9 ⟨rfl, ml, rfl⟩
          have hb := hO9.out.s.out
          clear cl hO9
          go_wp2_with fail
          go_ret
          exact ⟨rfl, below_drewN hb ml⟩

set_option maxRecDepth 100000 in
theorem lifted (os : Os) (started : os.Started) (H : Type) (enc : TypeId × Value → H) :
    ReturnsInHanded {} Try.checked os 7 .any (Rows.schedOnceSpec.pre6 enc Try.prog Try.f7 Rows.schedOnceRow.domain false) (Rows.schedOnceSpec.post enc Try.prog Try.f7 false true false false) := by
  refine returnsInHanded_of_change (C := Try.checked) own started (by kernel_rfl) Try.func7
    (ChangeSpec.witness6 (enc := enc) (C := Try.checked) false ⟨#[], #[.int .i64 0, .int .i64 0, .slice none 0 0], []⟩ 8 (by kernel_rfl) (by kernel_rfl) (by kernel_rfl) (by kernel_rfl)) ?_
  intro W base args ds gs before hval0 hW hcnd _
  have hval : ∀ (j : Nat) t v, Try.f7.params[j]? = some t → args[j]? = some v → Value.okWide Try.prog W .any base t v := hval0
  have hW' := hW
  obtain ⟨p, q, hA0, hV, rfl, hfz, hnd⟩ := hW
  have hA : DataW.TrodAll enc Try.prog W 0 (fun _ => true) true Try.f7.params.toList args.toList ds p := hA0
  rw [Try.params7] at hA hval
  obtain ⟨v0, vs0, d0, ds0, p0, q0, hargs, rfl, rfl, h0, r0⟩ := trodAll_cons hA
  obtain ⟨v1, vs1, d1, ds1, p1, q1, rfl, rfl, rfl, h1, r1⟩ := trodAll_cons r0
  obtain ⟨v2, vs2, d2, ds2, p2, q2, rfl, rfl, rfl, h2, r2⟩ := trodAll_cons r1
  obtain ⟨rfl, rfl, rfl⟩ := trodAll_nil r2
  obtain rfl : args = #[v0, v1, v2] := by cases args; simp_all
  obtain ⟨rfl, rfl⟩ := trodVars_none hV
  obtain ⟨zb2, i2⟩ := op27_arg (hval 2 42 v2 rfl rfl) h2
  obtain ⟨a0, rfl, rfl, rfl, w0⟩ := open_int Try.underlying3 (hval 0 3 v0 rfl rfl) h0
  obtain ⟨a1, rfl, rfl, rfl, w1⟩ := open_int Try.underlying3 (hval 1 3 v1 rfl rfl) h1
  clear hA0 hval0
  simp only [List.append_nil] at hW'
  have lt2 : ∀ x ∈ p2, x.block < W.heap.size := fun x hx => by have := hW'.lt x (by simp [hx]); simpa using this
  refine (walk a0 a1 v2 zb2 W w0 w1 i2).mono fun e W' ⟨he, hg⟩ => ?_
  subst he
  exact ⟨_, rfl, post_of_kept (pa := _) (pv := []) hW' (fun _ _ _ => (trodAll_cons_mk (shut_bool Try.underlying4 _) trodAll_mk0)) (trodAll_cons_mk (shut_int Try.underlying3 w0) (trodAll_cons_mk (shut_int Try.underlying3 w1) (trodAll_cons_mk (Below.trod laidOut (by kernel_rfl) (of_decide_eq_true (by kernel_rfl)) h2 hg lt2) trodAll_mk0))) (fun _ _ => rfl) (by simp) hg⟩

theorem over : Rows.schedOnceRow.holds Try.pinned (OpenSpec.ofChange Rows.schedOnceSpec) :=
  OpenClaim.holds_of_wide 7 Try.f7 rfl rfl rfl rfl rfl rfl rfl ⟨rfl, rfl, rfl, rfl, rfl⟩ rfl rfl rfl rfl rfl (by kernel_rfl) Try.func7 (by kernel_rfl)
    (of_decide_eq_true (by kernel_rfl)) (by unfold Func.isWrapper; first | (rw [if_pos (by decide +kernel)]; kernel_rfl) | (rw [if_neg (by decide +kernel)]; exact ⟨rfl, rfl⟩))
    (fun os started H enc _ => lifted os started H enc)

theorem proved : Rows.SchedOnceSaid :=
  over
#print axioms proved
end Go.Proofs.Ytmngaedcckjfoaa.schedOnce
