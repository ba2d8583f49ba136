/- Who allocates helps: a goroutine's words by number, as they lie; what the calls of package credit answer and make of it. -/
import Derived.Test.YtmngaedcckjfoaaIMap
import Derived.Test.YtmngaedcckjfoaaRow
import Derived.Test.YtmngaedcckjfoaaFixOpsK
import Derived.Test.YtmngaedcckjfoaaMinMax
import Derived.StillTailTactics
import Derived.Deep.RegionHeld3
import Derived.Deep.RegionWith
import Derived.RegionTactic
import Derived.BigQuiet
namespace Go.Proofs.Ytmngaedcckjfoaa
open Go.RowKit Go.Lib Fx Ho Mp
set_option linter.unusedVariables false
namespace Cr
/-- Words allocated and words scanned. -/
abbrev Sm := Int × Int
def sv (x : Sm) : Value := .agg #[.int .i64 x.1, .int .i64 x.2]
def RS : Rdr := fun v => match v with
  | .agg xs => match xs.toList with
    | [.int .i64 a, .int .i64 s] => some (.agg [.lit (.int .i64 a), .lit (.int .i64 s)], [])
    | _ => none
  | _ => none
theorem rs_of (x : Sm) : RS (sv x) = some (.agg [.lit (.int .i64 x.1), .lit (.int .i64 x.2)], []) := rfl
theorem rs_inv {v : Value} {d : DataW Unit} {ps : List MemPlace} (h : RS v = some (d, ps)) : ∃ a s, v = sv (a, s) ∧ d = .agg [.lit (.int .i64 a), .lit (.int .i64 s)] ∧ ps = [] := by
  unfold RS at h
  split at h
  · rename_i xs
    split at h
    · rename_i a s e
      cases h
      refine ⟨a, s, ?_, rfl, rfl⟩
      unfold sv
      congr 1
      apply Array.toList_inj.1
      exact e
    · cases h
  · cases h
theorem fairS : Mp.Fair RS := ⟨fun h => (rs_inv h).choose_spec.choose_spec.2.2, fun {u v d} h1 h2 => by
  obtain ⟨a, s, rfl, e1, _⟩ := rs_inv h1
  obtain ⟨b, t, rfl, e2, _⟩ := rs_inv h2
  rw [e1] at e2
  injection e2 with e3
  injection e3 with e4 e5
  injection e5 with e6 _
  injection e4 with e7
  injection e6 with e8
  injection e7 with _ e9
  injection e8 with _ e10
  rw [e9, e10]⟩
set_option maxRecDepth 100000 in
theorem zeroS (w : World) : (zeroValue 116).run Try.prog w = .ok (sv (0, 0)) w := by rfl
variable {w w' W W0 : World} {p n : Nat} {mp : Option Nat} {ratio bank : Int} {m : Int → Sm} {H H' : Home}
structure IsC (w : World) (p : Nat) (ratio bank : Int) (mp : Option Nat) (n : Nat) (m : Int → Sm) : Prop where
  head : w.heap[p]? = some (.cells #[.int .i64 ratio, .int .i64 bank, .map mp] 113 (0, 0))
  none_ : mp = none → m = fun _ => (0, 0)
  some_ : ∀ b, mp = some b → b ≠ p ∧ IMap RS (sv (0, 0)) w b n (fun k => sv (m k))
  rt : inI ratio
  val : ∀ k, inI (m k).1 ∧ inI (m k).2
def home (p : Nat) (mp : Option Nat) : Home := fun k => k = p ∨ mp = some k
namespace IsC
theorem plt (h : IsC w p ratio bank mp n m) : p < w.heap.size := block_lt h.head
theorem lt (h : IsC w p ratio bank mp n m) {k : Nat} (hk : home p mp k) : k < w.heap.size := hk.elim (fun e => by rw [show k = p from e]; exact h.plt) (fun e => (h.some_ k e).2.lt)
theorem wrote (h : IsC w p ratio bank mp n m) (ht : Wrote H w H' w') (ho : Off (home p mp) H) : IsC w' p ratio bank mp n m :=
  ⟨(ht.block p h.plt (fun h' => ho p (.inl rfl) h')).trans h.head, h.none_, fun b e => ⟨(h.some_ b e).1, (h.some_ b e).2.wrote ht (fun h' => ho b (.inr e) h')⟩, h.rt, h.val⟩
theorem below (h : IsC w p ratio bank mp n m) (hb : Below w.heap.size w w') : IsC w' p ratio bank mp n m := h.wrote (H := fun _ => False) (Wrote.of_below hb) (fun _ _ h => h)
theorem look (h : IsC w p ratio bank mp n m) {k : Int} (hk : (Lit.int .i64 k).wf = true) : ∀ W, Below w.heap.size w W → (Instr.lookup 111 (.map mp) (.int .i64 k) false).run Try.prog W = .ok (.agg #[.int .i64 (m k).1, .int .i64 (m k).2]) W := fun W hb => by
  cases mp with
  | none =>
    rw [h.none_ rfl]
    exact Go.Maps.look_nil false keyd Try.underlying111 (zeroS W) (keyI hk)
  | some b => exact ((h.some_ b rfl).2.below hb).look fairS Try.underlying111 (zeroS W) hk
end IsC
/-- A session of a law: at most n keys were ever set. -/
def Sc (W0 W : World) (p : Nat) (H : Home) (ratio bank : Int) (n : Nat) (m : Int → Sm) : Prop := ∃ mp, IsC W p ratio bank mp n m ∧ Low W0.heap.size H ∧ Below W0.heap.size W0 W ∧ H = home p mp
def Step (r : Value) (W0 W : World) (p : Nat) (H : Home) (ratio bank : Int) (n : Nat) (m : Int → Sm) (e : Ending) (W' : World) : Prop := e = .returned r ∧ ∃ H', Wrote H W H' W' ∧ Sc W0 W' p H' ratio bank n m
namespace Sc
variable {W' : World}
theorem out (h : Sc W0 W p H ratio bank n m) : Below W0.heap.size W0 W := by obtain ⟨_, _, _, h, _⟩ := h; exact h
theorem low (h : Sc W0 W p H ratio bank n m) : Low W0.heap.size H := by obtain ⟨_, _, h, _, _⟩ := h; exact h
theorem lt (h : Sc W0 W p H ratio bank n m) {k : Nat} (hk : H k) : k < W.heap.size := by obtain ⟨_, h, _, _, rfl⟩ := h; exact h.lt hk
theorem below (h : Sc W0 W p H ratio bank n m) (hb : Below W.heap.size W W') : Sc W0 W' p H ratio bank n m := by
  obtain ⟨mp, h1, h2, h3, h4⟩ := h
  exact ⟨mp, h1.below hb, h2, h3.trans (hb.mono h3.size), h4⟩
theorem wrote {H1 H2 : Home} (h : Sc W0 W p H ratio bank n m) (hw : Wrote H1 W H2 W') (ho : Off H H1) (hl : Low W0.heap.size H1) : Sc W0 W' p H ratio bank n m := by
  obtain ⟨mp, h1, h2, h3, rfl⟩ := h
  exact ⟨mp, h1.wrote hw ho, h2, h3.trans (Rw.below_of_wrote hw hl h3.size), rfl⟩
theorem step {mp mp' : Option Nat} {n' : Nat} {bank' : Int} {m' : Int → Sm} {r : Value} {e : Ending} (h : Low W0.heap.size (home p mp)) (hb : Below W0.heap.size W0 W) (he : e = .returned r) (h2 : IsC W' p ratio bank' mp' n' m') (hw : Wrote (home p mp) W (home p mp') W') : Step r W0 W p (home p mp) ratio bank' n' m' e W' :=
  ⟨he, _, hw, mp', h2, hw.low h hb.size, hb.trans (Rw.below_of_wrote hw h hb.size), rfl⟩
theorem then_ {W1 : World} {r : Value} {n' : Nat} {bank' : Int} {m' : Int → Sm} {e : Ending} (hb : Below W.heap.size W W1) (h : Step r W0 W1 p H ratio bank' n' m' e W') : Step r W0 W p H ratio bank' n' m' e W' := by
  obtain ⟨a, H', b, c⟩ := h
  exact ⟨a, H', (Wrote.of_below hb).trans b, c⟩
end Sc
set_option maxRecDepth 100000 in
theorem new_any (r : Int) (hr : inI r) (w : World) : Calls Try.prog 15 #[.int .i64 r] w fun e w' => e = .returned (.pointer (some ⟨w.heap.size, 0, none⟩)) ∧ Sc w w' w.heap.size (home w.heap.size none) r 0 0 (fun _ => (0, 0)) := by
  have hend : Hid (Sc w (w.alloc (.cells #[.int .i64 r, .int .i64 0, .map none] 113)) w.heap.size (home w.heap.size none) r 0 0 (fun _ => (0, 0))) := Lib.hid ⟨none, ⟨heap_alloc_new _ _, (fun _ => rfl), (fun b e => by cases e), hr, (fun k => ⟨by unfold inI; simp, by unfold inI; simp⟩)⟩, (fun k hk => hk.elim (fun e => Nat.le_of_eq e.symm) (fun e => by cases e)), below_alloc (Below.refl _ _) _, rfl⟩
  clear hr
  go_enter Try.func15, Try.ntmps15
  go_wp2_with fail
  go_ret
  exact ⟨rfl, hend.out⟩
set_option maxRecDepth 100000 in
theorem free_any (h : IsC w p ratio bank mp n m) : Calls Try.prog 86 #[.pointer (some ⟨p, 0, none⟩)] w (Still (.bool (decide (ratio ≤ 0))) w) := by
  have c0 := cell_of h.head (j := 0) rfl
  clear h
  go_enter Try.func86, Try.ntmps86
  go_wp2_with fail
  go_ret
  exact ⟨rfl, rfl⟩
/-- How many words may be allocated for so many that were scanned. -/
def cov (r s : Int) : Int := intI (divI (wholeI s) r)
theorem divI_in (a b : Int) (ha : inI a) : inI (divI a b) := by
  unfold divI
  split
  · unfold inI endI; split <;> (try split) <;> omega
  · exact clampI_in _
theorem cov_bd (r s : Int) : -8796093022208 ≤ cov r s ∧ cov r s ≤ 8796093022207 := by
  have h := divI_in (wholeI s) r (clampI_in _)
  unfold cov intI
  generalize divI (wholeI s) r = x at *
  unfold inI at h
  omega
set_option maxRecDepth 100000 in
set_option maxHeartbeats 1000000 in
theorem covered_any (h : IsC w p ratio bank mp n m) (s : Int) (hs : inI s) : Calls Try.prog 87 #[.pointer (some ⟨p, 0, none⟩), .int .i64 s] w (Ans (.int .i64 (cov ratio s)) w) := by
  have c0 := cell_of h.head (j := 0) rfl
  have cw := fun w => whole_any s hs w
  have cd := fun w => div_any (wholeI s) ratio (clampI_in _) h.rt w
  have ci := fun w => int_any (divI (wholeI s) ratio) w
  unfold cov
  clear h hs
  generalize wholeI s = a at *
  generalize divI a ratio = b at *
  generalize intI b = c at *
  go_enter Try.func87, Try.ntmps87
  go_wp2_with fail
  go_quiet (first | (go_at_call 21; exact quiet_ans1 (cw _)) | (go_at_call 20; exact quiet_ans1 (cd _)) | (go_at_call 19; exact Calls.quiet_of_same ((ci _).mono fun _ _ h => ⟨h.1, h.2.symm⟩)))
  go_wp2_with fail
  go_ret
  exact ⟨rfl, _, rfl⟩
theorem up_sv (m : Int → Sm) (g : Int) (x : Sm) : up (fun k => sv (m k)) g (sv x) = fun k => sv (up m g x k) := by
  funext k
  unfold up
  split <;> rfl
theorem val_up {m : Int → Sm} (h : ∀ k, inI (m k).1 ∧ inI (m k).2) (g : Int) {x : Sm} (hx : inI x.1 ∧ inI x.2) : ∀ k, inI (up m g x k).1 ∧ inI (up m g x k).2 := fun k => by
  unfold up
  split
  · exact hx
  · exact h k
set_option maxRecDepth 100000 in
set_option maxHeartbeats 1000000 in
/-- A goroutine's sums are kept. -/
theorem set_any (h : Sc W0 W p H ratio bank n m) {g : Int} (hg : (Lit.int .i64 g).wf = true) (a s : Int) (hx : inI a ∧ inI s) (hn : n ≤ 100000) : Calls Try.prog 88 #[.pointer (some ⟨p, 0, none⟩), .int .i64 g, .agg #[.int .i64 a, .int .i64 s]] W (Step (.tuple #[]) W0 W p H ratio bank (n + 1) (up m g (a, s))) := by
  obtain ⟨mp, h1, hl, hb0, rfl⟩ := h
  have hb1 := below_alloc (Below.refl _ W) (.cells #[.int .i64 a, .int .i64 s] 116)
  have hz : (W.alloc (.cells #[.int .i64 a, .int .i64 s] 116)).heap[W.heap.size]? = some (.cells #[.int .i64 a, .int .i64 s] 116 (0, 0)) := heap_alloc_new _ _
  have h2 := h1.below hb1
  have hp := h1.plt
  have qT : ∀ (w : World) (r : Option Nat), (binOp .eql 111 (.map r) (.map none)).run Try.prog w = .ok (.bool r.isNone) w := fun w r => run_eql_map_nil w _ _ _ r Try.underlying111
  have hmax : n < maxLen := by unfold maxLen; omega
  cases mp with
  | some b =>
    obtain ⟨hbp, hM⟩ := h2.some_ b rfl
    have hblt := hM.lt
    have c2 := cell_of h2.head (j := 2) rfl
    have z0 := cell_of hz (j := 0) rfl
    have z1 := cell_of hz (j := 1) rfl
    have hM2 := Lib.hid (hM.below (Below.refl _ _).drew)
    have hfin : Hid (∀ w', IMap RS (sv (0, 0)) w' b (n + 1) (up (fun k => sv (m k)) g (.agg #[.int .i64 a, .int .i64 s])) → Wrote (fun k => k = b) (W.alloc (.cells #[.int .i64 a, .int .i64 s] 116)).drew (fun k => k = b) w' → Step (.tuple #[]) W0 W p (home p (some b)) ratio bank (n + 1) (up m g (a, s)) (.returned (.tuple #[])) w') := Lib.hid fun w' q1 q2 => by
      rw [show (Value.agg #[.int .i64 a, .int .i64 s]) = sv (a, s) from rfl, up_sv] at q1
      have hbd : Below W.heap.size W (W.alloc (.cells #[.int .i64 a, .int .i64 s] 116)).drew := hb1.trans ((Below.refl _ _).drew.mono hb1.size)
      have hw : Wrote (home p (some b)) W (home p (some b)) w' := (Wrote.of_below hbd).trans ⟨q2.os, q2.tape, q2.output, q2.size, fun k hk hn => q2.block k hk (fun e => hn (.inr (by rw [e]))), fun k hk => .inl hk⟩
      exact Sc.step hl hb0 rfl ⟨(q2.block p (h2.plt) (fun e => hbp e.symm)).trans h2.head, (fun e => by cases e), (fun b' e => by cases e; exact ⟨hbp, q1⟩), h2.rt, val_up h2.val g (x := (a, s)) hx⟩ hw
    clear h1 hl hb0 hb1 hz h2 hM hx
    go_enter Try.func88, Try.ntmps88
    go_wp2_with fail
    generalize W.alloc (.cells #[.int .i64 a, .int .i64 s] 116) = w1 at *
    go_still_tail 6, (by kernel_rfl)
    change wpList _ _ _ _ _ w1.drew
    go_wp2_with (at_mapUpdate; refine wpList_put rfl _ _ _ 111 rfl Try.underlying111 hM2.out rfl hmax hg rfl rfl (rs_of (a, s)) ?_; intro w2 q1 q2; have hf := hfin.out w2 q1 q2; clear q1 q2 hM2 hfin)
    go_end0
    exact hf
  | none =>
    have hm0 := h2.none_ rfl
    have c2 := cell_of h2.head (j := 2) rfl
    have f2 := frozen_of_row _ p 2 _ _ h2.head
    have z0 := cell_of hz (j := 0) rfl
    have z1 := cell_of hz (j := 1) rfl
    have hmm := @run_makeMap Try.prog
    have hpz : p ≠ W.heap.size := by omega
    have sz : ∀ (w : World) (o : Obj), (w.alloc o).heap.size = w.heap.size + 1 := fun w o => by show (w.heap.push _).size = _; rw [Array.size_push]
    have ss : (W.setCell ⟨p, 2, none⟩ (.map (some (W.heap.size + 1)))).heap.size = W.heap.size := by simp [World.setCell]
    obtain ⟨w0, hw0⟩ : ∃ w0, W.setCell ⟨p, 2, none⟩ (.map (some (W.heap.size + 1))) = w0 := ⟨_, rfl⟩
    have hh0 : w0.heap[p]? = some (.cells #[.int .i64 ratio, .int .i64 bank, .map (some (W.heap.size + 1))] 113 (0, 0)) := by
      rw [← hw0, heap_setCell_same _ p 2 _ _ _ h1.head]; rfl
    have hwr0 : Wrote (fun k => k = p) W (fun k => k = p) w0 := by rw [← hw0]; exact wrote_setCell (H := fun k => k = p) (a := ⟨p, 2, none⟩) (u := .map (some (W.heap.size + 1))) rfl rfl rfl rfl rfl
    rw [hw0] at ss
    have b1 := below_alloc (Below.refl _ w0) (.cells #[.int .i64 a, .int .i64 s] 116)
    have b2 := below_alloc (Below.refl _ (w0.alloc (.cells #[.int .i64 a, .int .i64 s] 116))) (.map #[] 0)
    have x1 := heap_alloc_new w0 (.cells #[.int .i64 a, .int .i64 s] 116)
    rw [ss] at x1
    have hmap := made (R := RS) (rs_of (0, 0)) (w0.alloc (.cells #[.int .i64 a, .int .i64 s] 116))
    rw [sz, ss] at hmap
    have hb2s : W.heap.size < (w0.alloc (.cells #[.int .i64 a, .int .i64 s] 116)).heap.size := by rw [sz, ss]; omega
    have x2 := (b2.block _ hb2s).trans x1
    have hh2 := (b2.block p (by rw [sz, ss]; omega)).trans ((b1.block p (by rw [ss]; exact hp)).trans hh0)
    have hwr2 : Wrote (fun k => k = p) W (fun k => k = p) ((w0.alloc (.cells #[.int .i64 a, .int .i64 s] 116)).alloc (.map #[] 0)) := hwr0.trans ((Wrote.of_below b1).trans (Wrote.of_below b2))
    obtain ⟨w2, hw2⟩ : ∃ w2, (w0.alloc (.cells #[.int .i64 a, .int .i64 s] 116)).alloc (.map #[] 0) = w2 := ⟨_, rfl⟩
    rw [hw2] at hmap x2 hh2 hwr2
    have hM2 := Lib.hid (hmap.below (Below.refl _ _).drew)
    have d2 := cell_of hh2 (j := 2) rfl
    have y0 := cell_of x2 (j := 0) rfl
    have y1 := cell_of x2 (j := 1) rfl
    have hfin : Hid (∀ w', IMap RS (sv (0, 0)) w' (W.heap.size + 1) (0 + 1) (up (fun _ => sv (0, 0)) g (.agg #[.int .i64 a, .int .i64 s])) → Wrote (fun k => k = W.heap.size + 1) w2.drew (fun k => k = W.heap.size + 1) w' → Step (.tuple #[]) W0 W p (home p none) ratio bank (n + 1) (up m g (a, s)) (.returned (.tuple #[])) w') := Lib.hid fun w' q1 q2 => by
      rw [show (Value.agg #[.int .i64 a, .int .i64 s]) = sv (a, s) from rfl, up_sv (fun _ => (0, 0))] at q1
      have hw2' : Wrote (fun k => k = p) W (fun k => k = p) w2.drew := hwr2.trans (Wrote.of_below (Below.refl _ _).drew)
      have hw : Wrote (home p none) W (home p (some (W.heap.size + 1))) w' := ⟨q2.os.trans hw2'.os, q2.tape.trans hw2'.tape, q2.output.trans hw2'.output, Nat.le_trans hw2'.size q2.size, fun k hk hno => (q2.block k (Nat.lt_of_lt_of_le hk hw2'.size) (fun e => by omega)).trans (hw2'.block k hk (fun e => hno (.inl e))), fun k hk => hk.elim (fun e => .inl (.inl e)) (fun e => .inr (by have := Option.some.inj e; omega))⟩
      have hdr : w2.drew.heap[p]? = _ := hh2
      refine Sc.step hl hb0 rfl ⟨(q2.block p (block_lt hdr) (fun e => by omega)).trans hdr, (fun e => by cases e), (fun b' e => by cases e; exact ⟨by omega, (by rw [hm0]; exact q1.mono (by omega))⟩), h2.rt, val_up h2.val g (x := (a, s)) hx⟩ hw
    clear h1 hl hb0 hb1 hz h2 hx hh0 hwr0 b1 b2 x1 hmap hb2s x2 hh2 hwr2
    clear hm0
    have hmax0 : 0 < maxLen := by unfold maxLen; omega
    go_enter Try.func88, Try.ntmps88
    go_wp2_with fail
    clear c2 f2 z0 z1 hw0 hw2 ss
    go_still_tail 6, (by kernel_rfl)
    change wpList _ _ _ _ _ w2.drew
    go_wp2_with (at_mapUpdate; refine wpList_put rfl _ _ _ 111 rfl Try.underlying111 hM2.out rfl hmax0 hg rfl rfl (rs_of (a, s)) ?_; intro w3 q1 q2; have hf := hfin.out w3 q1 q2; clear q1 q2 hM2 hfin)
    go_end0
    exact hf
end Cr
end Go.Proofs.Ytmngaedcckjfoaa
