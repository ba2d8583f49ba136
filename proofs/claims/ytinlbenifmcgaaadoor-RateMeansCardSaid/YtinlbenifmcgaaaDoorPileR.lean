/- The order of floats as package rate asks it, and its pile: a row of floats behind a pointer. -/
import Derived.Test.YtinlbenifmcgaaaDoorGRow
import Derived.Test.YtinlbenifmcgaaaDoorFKey
import Derived.Test.YtinlbenifmcgaaaDoorHeapUp
import Derived.WalkLawsBesides
import Derived.Deep.RegionLaw
import Derived.Deep.RegionHeld3
import Derived.Deep.RegionWith
import Derived.StillTailTactics
import Derived.RegionTactic
namespace Go.Proofs.YtinlbenifmcgaaaDoor
open Go.RowKit Go.Lib Fx Ho Gr
set_option linter.unusedVariables false
theorem bits_find : Extern.find Tryd.f37 = some Extern.MathFloatBits.float64bits := by kernel_rfl
theorem bits_next : Extern.findNext Tryd.f37 = none := by kernel_rfl
theorem bits_run (x : Nat) (w : World) : (callFunc 37 #[.float .f64 x]).run Tryd.prog w = .ok (.value (.int .u64 x)) w := by
  rw [run_callFunc_extern Tryd.func37 (by kernel_rfl) (by kernel_rfl) bits_next bits_find]
  rfl
theorem frombits_find : Extern.find Tryd.f38 = some Extern.MathFloatBits.float64frombits := by kernel_rfl
theorem frombits_next : Extern.findNext Tryd.f38 = none := by kernel_rfl
theorem frombits_run (x : Int) (w : World) : (callFunc 38 #[.int .u64 x]).run Tryd.prog w = .ok (.value (.float .f64 x.toNat)) w := by
  rw [run_callFunc_extern Tryd.func38 (by kernel_rfl) (by kernel_rfl) frombits_next frombits_find]
  rfl
namespace Pr
open Fk Fl Ieee
def Wf (x : Nat) : Prop := x < 18446744073709551616
set_option maxRecDepth 100000 in
theorem sign_any (x : Nat) (hx : Wf x) (w : World) : Calls Tryd.prog 29 #[.float .f64 x] w (Still (.bool (neg x)) w) := by
  have hr := bits_run x
  unfold Wf at hx
  by_cases h : x < 9223372036854775808
  · have e : neg x = false := by unfold neg; rw [Nat.div_eq_of_lt h]; rfl
    rw [e]
    have h1 : (x : Int) < 9223372036854775808 := by omega
    have h0 : (0 : Int) ≤ (x : Int) := by omega
    have hw : IntKind.i64.wrap (x : Int) = (x : Int) := by unfold IntKind.wrap; simp only [IntKind.signed, IntKind.bits]; simp; omega
    clear hx h e
    go_enter Tryd.func29, Tryd.ntmps29
    go_wp2_with fail
    go_ret
    exact ⟨rfl, rfl⟩
  · have e : neg x = true := by unfold neg; rw [show x / 9223372036854775808 = 1 by omega]; rfl
    rw [e]
    have hw : IntKind.i64.wrap (x : Int) = (x : Int) - 18446744073709551616 := by unfold IntKind.wrap; simp only [IntKind.signed, IntKind.bits]; simp; omega
    obtain ⟨y, hy⟩ : ∃ y : Int, (x : Int) - 18446744073709551616 = y := ⟨_, rfl⟩
    rw [hy] at hw
    have hy0 : y < 0 := by omega
    clear hx h e hy
    go_enter Tryd.func29, Tryd.ntmps29
    go_wp2_with fail
    go_ret
    exact ⟨rfl, rfl⟩
theorem ord_self {x : Nat} (hx : Wf x) (h : isN x = false) : FloatKind.f64.format.order x x = some .eq := by
  obtain ⟨o, c⟩ := cmp_any hx hx h h
  cases o with
  | lt => have := c.lt rfl; omega
  | gt => have := c.gt rfl; omega
  | eq => exact c.o
theorem ord_no {x : Nat} (h : isN x = true) : FloatKind.f64.format.order x x = none := ord_nan (Or.inl h)
set_option maxRecDepth 100000 in
theorem below_any (x y : Nat) (hx : Wf x) (hy : Wf y) (w : World) : Calls Tryd.prog 28 #[.float .f64 x, .float .f64 y] w (Still (.bool (decide (key x < key y))) w) := by
  have s1 := sign_any x hx w
  have s2 := sign_any y hy w
  cases nx : isN x with
  | true =>
    have o1 := ord_no nx
    have k1 := key_nan nx
    cases ny : isN y with
    | true =>
      have o2 := ord_no ny
      have k2 := key_nan ny
      rw [show decide (key x < key y) = false by rw [k1, k2]; simp]
      clear k1 k2 nx ny hx hy s1 s2
      go_enter Tryd.func28, Tryd.ntmps28
      go_wp2_with fail
      go_ret
      exact ⟨rfl, rfl⟩
    | false =>
      have o2 := ord_self hy ny
      have k2 := key_num ny
      rw [show decide (key x < key y) = true by rw [k1]; exact decide_eq_true k2]
      clear k1 k2 nx ny hx hy s1 s2
      go_enter Tryd.func28, Tryd.ntmps28
      go_wp2_with fail
      go_ret
      exact ⟨rfl, rfl⟩
  | false =>
    have o1 := ord_self hx nx
    have k1 := key_num nx
    cases ny : isN y with
    | true =>
      have o2 := ord_no ny
      have k2 := key_nan ny
      rw [show decide (key x < key y) = false by rw [k2]; exact decide_eq_false (by omega)]
      clear k1 k2 nx ny hx hy s1 s2
      go_enter Tryd.func28, Tryd.ntmps28
      go_wp2_with fail
      go_ret
      exact ⟨rfl, rfl⟩
    | false =>
      have o2 := ord_self hy ny
      obtain ⟨o, c⟩ := cmp_any hx hy nx ny
      have o3 := c.o
      cases o with
      | lt =>
        rw [show decide (key x < key y) = true from decide_eq_true (c.lt rfl)]
        clear k1 nx ny hx hy s1 s2 c
        go_enter Tryd.func28, Tryd.ntmps28
        go_wp2_with fail
        go_ret
        exact ⟨rfl, rfl⟩
      | gt =>
        rw [show decide (key x < key y) = false from decide_eq_false (by have := c.gt rfl; omega)]
        clear k1 nx ny hx hy s1 s2 c
        go_enter Tryd.func28, Tryd.ntmps28
        go_wp2_with fail
        go_ret
        exact ⟨rfl, rfl⟩
      | eq =>
        rw [← c.eq rfl]
        clear k1 nx ny hx hy c
        generalize neg x = b1 at *
        generalize neg y = b2 at *
        cases b1 with
        | false =>
          go_enter Tryd.func28, Tryd.ntmps28
          go_wp2_with (go_at_call 29; (with_reducible refine Calls.mono s1 ?_); rintro e w2 ⟨rfl, rfl⟩)
          go_ret
          exact ⟨rfl, rfl⟩
        | true =>
          go_enter Tryd.func28, Tryd.ntmps28
          go_wp2_with (first | (go_at_call 29; (with_reducible refine Calls.mono s1 ?_); rintro e w2 ⟨rfl, rfl⟩) | (go_at_call 29; (with_reducible refine Calls.mono s2 ?_); rintro e w2 ⟨rfl, rfl⟩))
          go_ret
          cases b2 <;> exact ⟨rfl, rfl⟩
def fc (L : List Nat) : List Value := L.map (Value.float .f64)
theorem fc_len (L : List Nat) : (fc L).length = L.length := List.length_map ..
theorem fc_get {L : List Nat} {i : Nat} (h : i < L.length) : (fc L)[i]? = some (.float .f64 (L.getD i 0)) := by
  unfold fc
  rw [List.getElem?_map, List.getElem?_eq_getElem h, List.getD_eq_getElem?_getD, List.getElem?_eq_getElem h]; rfl
theorem fc_set (L : List Nat) (i x : Nat) : (fc L).set i (.float .f64 x) = fc (L.set i x) := by unfold fc; rw [List.map_set]
theorem wf_get {L : List Nat} (hw : ∀ x ∈ L, Wf x) (i : Nat) : Wf (L.getD i 0) := by
  rw [List.getD_eq_getElem?_getD]
  cases e : L[i]? with
  | none => show (0 : Nat) < _; omega
  | some x => exact hw x (List.mem_of_getElem? e)
theorem meth_val {nm : String} {f : FuncId} (hf : ∃ m, (∀ w, (typeInfo 52).run Tryd.prog w = .ok m w) ∧ ∃ r, m.methods.find? (·.name == nm) = some r ∧ r.path = #[] ∧ r.func = some (f, false)) (n : Nat) (a : Addr) (v : Value) (w : World) (h : w.cell? a = some v) : (method (n + 1) 52 (.pointer (some a)) nm).run Tryd.prog w = .ok (f, v) w := by
  obtain ⟨m, h1, r, h2, h3, h4⟩ := hf
  have u : (underlying 52).run Tryd.prog w = .ok (.pointer 50) w := rfl
  have c : ∀ s1 s2 s3, (Builtin.ssaWrapNilChk_ s1 s2 #[.pointer (some a), strVal "", strVal s3]).run Tryd.prog w = .ok (.pointer (some a)) w := fun _ _ _ => rfl
  unfold method
  simp [h1, h2, h3, h4, follow, receiverAt, Place.get, loadVar, asAddr, u, c, h]
theorem meth_len (a : Addr) (v : Value) (w : World) (h : w.cell? a = some v) (n : Nat) (hn : 0 < n) : (method n 52 (.pointer (some a)) "Len").run Tryd.prog w = .ok (69, v) w := by
  obtain ⟨k, rfl⟩ : ∃ k, n = k + 1 := ⟨n - 1, by omega⟩
  exact meth_val ⟨_, fun _ => rfl, _, rfl, rfl, rfl⟩ k a v w h
theorem meth_less (a : Addr) (v : Value) (w : World) (h : w.cell? a = some v) (n : Nat) (hn : 0 < n) : (method n 52 (.pointer (some a)) "Less").run Tryd.prog w = .ok (70, v) w := by
  obtain ⟨k, rfl⟩ : ∃ k, n = k + 1 := ⟨n - 1, by omega⟩
  exact meth_val ⟨_, fun _ => rfl, _, rfl, rfl, rfl⟩ k a v w h
theorem meth_swap (a : Addr) (v : Value) (w : World) (h : w.cell? a = some v) (n : Nat) (hn : 0 < n) : (method n 52 (.pointer (some a)) "Swap").run Tryd.prog w = .ok (71, v) w := by
  obtain ⟨k, rfl⟩ : ∃ k, n = k + 1 := ⟨n - 1, by omega⟩
  exact meth_val ⟨_, fun _ => rfl, _, rfl, rfl, rfl⟩ k a v w h
theorem meth_pop (a : Addr) (w : World) (n : Nat) (hn : 0 < n) : (method n 52 (.pointer (some a)) "Pop").run Tryd.prog w = .ok (72, .pointer (some a)) w := by
  obtain ⟨k, rfl⟩ : ∃ k, n = k + 1 := ⟨n - 1, by omega⟩
  kernel_rfl
variable {w w' : World} {p : Nat} {v : Value} {L : List Nat}
set_option maxRecDepth 100000 in
theorem less_any (h : GRow 1 w v L.length (fc L)) (hw : ∀ x ∈ L, Wf x) {i j : Nat} (hi : i < L.length) (hj : j < L.length) : Calls Tryd.prog 70 #[v, .int .i64 i, .int .i64 j] w (Ans (.bool (Fk.ahead (L.getD i 0) (L.getD j 0))) w) := by
  have cb := fun w => below_any (L.getD j 0) (L.getD i 0) (wf_get hw j) (wf_get hw i) w
  obtain ⟨ao, b, off, cap, rfl, hle, hm, ha, hc⟩ := h.cell
  obtain ⟨rfl, -, -⟩ := ha (by omega)
  have ci := (hc i _ (fc_get hi)).1
  have cj := (hc j _ (fc_get hj)).1
  have e : Fk.ahead (L.getD i 0) (L.getD j 0) = decide (key (L.getD j 0) < key (L.getD i 0)) := rfl
  rw [e]
  generalize decide (key (L.getD j 0) < key (L.getD i 0)) = r at *
  generalize L.getD i 0 = x at *
  generalize L.getD j 0 = y at *
  generalize L.length = n at *
  clear ha hc h hw e
  unfold maxLen at hm
  go_enter Tryd.func70, Tryd.ntmps70
  go_wp2_with fail
  go_quiet ((go_at_call 28; exact quiet_ans1 ((cb _).mono fun _ _ h => ⟨h.1, 0, h.2.symm⟩)))
  go_wp2_with fail
  go_ret
  exact ⟨rfl, _, rfl⟩
set_option maxRecDepth 100000 in
theorem len_any (h : GRow 1 w v L.length (fc L)) : Calls Tryd.prog 69 #[v] w (Still (.int .i64 L.length) w) := by
  obtain ⟨ao, b, off, cap, rfl, hle, hm, ha, hc⟩ := h.cell
  unfold maxLen at hm
  generalize L.length = n at *
  clear ha hc h
  go_enter Tryd.func69, Tryd.ntmps69
  go_wp2_with fail
  go_ret
  exact ⟨rfl, rfl⟩
theorem swp_cells {b off cap n i j x y : Nat} (h : GRow 1 w (.slice (some ⟨b, off, none⟩) n cap) n (fc L)) (hn : L.length = n) (hx : L.getD i 0 = x) (hy : L.getD j 0 = y) (hi : i < n) (hj : j < n) (k : Nat) :
    GRow 1 (((w.setCell ⟨b, off + i, none⟩ (.float .f64 y)).setCell ⟨b, off + j, none⟩ (.float .f64 x)).drewN k) (.slice (some ⟨b, off, none⟩) n cap) n (fc (Hm.swp 0 L i j)) ∧
    Wrote (fun k => (Value.slice (some ⟨b, off, none⟩) n cap).ownBlock = some k) w (fun k => (Value.slice (some ⟨b, off, none⟩) n cap).ownBlock = some k) (((w.setCell ⟨b, off + i, none⟩ (.float .f64 y)).setCell ⟨b, off + j, none⟩ (.float .f64 x)).drewN k) := by
  have h1 := (h.set (u := .float .f64 y) (j := i) (by omega)).set (u := .float .f64 x) (j := j) (by omega)
  rw [fc_set, fc_set, ← hx, ← hy] at h1
  rw [← hx, ← hy]
  have w1 : Wrote (fun k => (Value.slice (some ⟨b, off, none⟩) n cap).ownBlock = some k) w (fun k => (Value.slice (some ⟨b, off, none⟩) n cap).ownBlock = some k) (w.setCell ⟨b, off + i, none⟩ (.float .f64 (L.getD j 0))) := wrote_setCell (a := ⟨b, off + i, none⟩) rfl rfl (by simp) rfl rfl
  have w2 : Wrote (fun k => (Value.slice (some ⟨b, off, none⟩) n cap).ownBlock = some k) (w.setCell ⟨b, off + i, none⟩ (.float .f64 (L.getD j 0))) (fun k => (Value.slice (some ⟨b, off, none⟩) n cap).ownBlock = some k) ((w.setCell ⟨b, off + i, none⟩ (.float .f64 (L.getD j 0))).setCell ⟨b, off + j, none⟩ (.float .f64 (L.getD i 0))) := wrote_setCell (a := ⟨b, off + j, none⟩) rfl rfl (by simp) rfl rfl
  exact ⟨h1.below (below_drewN (Below.refl _ _) k), (w1.trans w2).drewN k⟩
set_option maxRecDepth 100000 in
theorem swap_any (h : GRow 1 w v L.length (fc L)) {i j : Nat} (hi : i < L.length) (hj : j < L.length) : Calls Tryd.prog 71 #[v, .int .i64 i, .int .i64 j] w (fun e w' => e = .returned (.tuple #[]) ∧ GRow 1 w' v L.length (fc (Hm.swp 0 L i j)) ∧ Wrote (fun k => v.ownBlock = some k) w (fun k => v.ownBlock = some k) w') := by
  have h0 := h
  obtain ⟨ao, b, off, cap, rfl, hle, hm, ha, hc⟩ := h.cell
  obtain ⟨rfl, hbl, -⟩ := ha (by omega)
  obtain ⟨ci, fi⟩ := hc i _ (fc_get hi)
  obtain ⟨cj, fj⟩ := hc j _ (fc_get hj)
  have hfin := Lib.hid (swp_cells h0 rfl rfl rfl hi hj 1)
  generalize L.getD i 0 = x at *
  generalize L.getD j 0 = y at *
  generalize L.length = n at *
  clear ha hc h h0
  unfold maxLen at hm
  have hst : ∀ (a : Addr) (z : Nat) (m : Mode) (W : World), (store a (.float .f64 z) m).run Tryd.prog W = stored Tryd.prog W a (.float .f64 z) m := fun a z m W => run_store _ W a _ m rfl
  simp only [stored] at hst
  by_cases hij : i = j
  · subst hij
    have e : x = y := by rw [ci] at cj; cases cj; rfl
    subst e
    go_enter Tryd.func71, Tryd.ntmps71
    go_wp2_with fail
    go_region
    go_end0
    exact ⟨rfl, hfin.out⟩
  · go_enter Tryd.func71, Tryd.ntmps71
    go_wp2_with fail
    go_region
    go_end0
    exact ⟨rfl, hfin.out⟩
end Pr
end Go.Proofs.YtinlbenifmcgaaaDoor
