/- View: what can be reached (view.Reach), what is lost (view.Lost). -/
import Derived.Test.YtneibhcigbfigaaVwSeq
import Derived.Test.YtneibhcigbfigaaVwEx
namespace Go.Proofs.Ytneibhcigbfigaa
open Go.RowKit Go.Lib Fx Ho Gr
set_option linter.unusedVariables false
namespace Vw
variable {B w w' W : World} {zs lost : List Int} {sv v vg vs vo : Value} {S : Home} {V : Vi}
set_option maxRecDepth 100000 in
set_option maxHeartbeats 2000000 in
theorem collect_any {Bs : Nat} (hlen : zs.length ≤ 1000000) (hBs : Bs < w.heap.size) (hc : w.cell? ⟨Bs, 0, none⟩ = some sv) (hI : Ints w (fun k => k < w.heap.size) sv zs) : Calls Try.prog 99 #[.func (.func 100) #[] #[.pointer (some ⟨Bs, 0, none⟩)]] w fun e W' => ∃ v, e = .returned v ∧ Rw0 w.heap.size W' v zs ∧ Below w.heap.size w W' := by
  have c1 := callsIn_wide.1 (appendSeq_in 9 (by omega) Bs hlen hBs hc hI)
  replace hlen := Lib.hid hlen
  clear hI hc
  go_enter Try.func99, Try.ntmps99
  go_wp2_with fail
  with_reducible refine Calls.mono c1 ?_
  rintro e w2 ⟨v, rfl, h1, h2⟩
  have hf : Hid (∃ v1, Ending.returned v = .returned v1 ∧ Rw0 w.heap.size w2 v1 zs ∧ Below w.heap.size w w2) := Lib.hid ⟨v, rfl, rw0_owns h1 hlen.out, h2⟩
  clear c1 h1 h2
  go_wp2_with fail
  go_ret
  exact hf.out
set_option maxRecDepth 100000 in
set_option maxHeartbeats 2000000 in
theorem sorted_any {Bs : Nat} (hlen : zs.length ≤ 1000000) (hBs : Bs < w.heap.size) (hc : w.cell? ⟨Bs, 0, none⟩ = some sv) (hI : Ints w (fun k => k < w.heap.size) sv zs) : Calls Try.prog 63 #[.func (.func 100) #[] #[.pointer (some ⟨Bs, 0, none⟩)]] w fun e W' => ∃ v ts, e = .returned v ∧ ts.Perm zs ∧ ts.Pairwise (· ≤ ·) ∧ Ints W' (fun k => w.heap.size ≤ k) v ts ∧ Below w.heap.size w W' := by
  have c1 := collect_any hlen hBs hc hI
  clear hI hc hBs
  go_enter Try.func63, Try.ntmps63
  go_wp2_with fail
  with_reducible refine Calls.mono c1 ?_
  rintro e w2 ⟨v, rfl, h1, hb2⟩
  have c2 := sort_any h1
  have hlow := Lib.hid h1.low
  replace hb2 := Lib.hid hb2
  clear c1 h1
  go_wp2_with fail
  with_reducible refine Calls.mono c2 ?_
  rintro e w3 ⟨rfl, ts, hp, hs, h3, hw3⟩
  have hf : Hid (∃ v1 ts, Ending.returned v = .returned v1 ∧ ts.Perm zs ∧ ts.Pairwise (· ≤ ·) ∧ Ints w3 (fun k => w.heap.size ≤ k) v1 ts ∧ Below w.heap.size w w3) := Lib.hid ⟨v, ts, rfl, hp, hs, h3.ints, below_wrote hw3 hb2.out hlow.out⟩
  clear c2 hp hs h3 hw3
  go_wp2_with fail
  go_ret
  exact hf.out
set_option maxRecDepth 100000 in
theorem values_any (a : Option Addr) (n c : Nat) (w : World) : Calls Try.prog 64 #[.slice a n c] w fun e w' => e = .returned (.func (.func 100) #[] #[.pointer (some ⟨w.heap.size, 0, none⟩)]) ∧ w' = w.alloc (.cells #[.slice a n c] 23) := by
  have hmf : ∀ (fn : Fn) (first cap : Array Value) (w : World), (Instr.makeFunc fn first cap).run Try.prog w = .ok (.func fn first cap) w := fun _ _ _ _ => rfl
  go_enter Try.func64, Try.ntmps64
  go_wp2_with fail
  go_ret
  exact ⟨rfl, rfl⟩
/-- Those that can be reached, rising. -/
structure RchL (V : Vi) (ts : List Int) : Prop where
  up : ts.Pairwise (· < ·)
  mem : ∀ a, a ∈ ts ↔ Rch (rootsL V.gl V.gs) V.os a
structure LstL (V : Vi) (ts : List Int) : Prop where
  up : ts.Pairwise (· < ·)
  mem : ∀ a, a ∈ ts ↔ Lst (rootsL V.gl V.gs) V.os a
theorem roots_nz {a : Int} (h : a ∈ rootsL V.gl V.gs) : a ≠ 0 := (mem_roots.1 h).1
/-- All was gone through, where nobody was looked for. -/
theorem Fin.whole {L : List Ent} {i : Nat} {pre : List Int} (h : Fin V 0 L lost i pre) : Bf (rootsL V.gl V.gs) V.os L lost i pre ∧ Ris (src (rootsL V.gl V.gs) V.os L i) pre ∧ i = L.length := by
  rcases h with h | h
  · exact h
  · exact absurd rfl h.2.2
theorem sorted_up {ts l : List Int} (hp : ts.Perm l) (hs : ts.Pairwise (· ≤ ·)) (hn : l.Nodup) : ts.Pairwise (· < ·) := by
  have h2 : ts.Nodup := hp.nodup_iff.2 hn
  exact (hs.and h2).imp (fun h => Int.lt_iff_le_and_ne.2 h)
def ReachV (w : World) (V : Vi) (e : Ending) (w' : World) : Prop := ∃ v ts, e = .returned v ∧ RchL V ts ∧ Ints w' (fun k => w.heap.size ≤ k) v ts ∧ Below w.heap.size w w'
def LostV (w : World) (V : Vi) (e : Ending) (w' : World) : Prop := ∃ v ts, e = .returned v ∧ LstL V ts ∧ Ints w' (fun k => w.heap.size ≤ k) v ts ∧ Below w.heap.size w w'
theorem ints_wide {lo : Nat} (h : Ints w (fun k => lo ≤ k) v zs) : Ints w (fun k => k < w.heap.size) v zs := h.wider (fun k _ hk => hk)
set_option maxRecDepth 100000 in
set_option maxHeartbeats 4000000 in
theorem viewReach_any (h : IsV w V vg vs vo) (hf : Fw V) : Calls Try.prog 26 #[vv V vg vs vo] w (ReachV w V) := by
  obtain ⟨W1, hW1⟩ : ∃ W1, w.alloc (.cells #[.int .i64 V.ph, .int .i64 V.cy, .int .i64 V.ck, vg, vs, vo, .int .i64 V.gr, .int .i64 V.nt, .int .i64 V.rt] 32) = W1 := ⟨_, rfl⟩
  have hb1 := below_alloc (Below.refl _ w) (.cells #[.int .i64 V.ph, .int .i64 V.cy, .int .i64 V.ck, vg, vs, vo, .int .i64 V.gr, .int .i64 V.nt, .int .i64 V.rt] 32)
  have k1 := heap_alloc_new w (.cells #[.int .i64 V.ph, .int .i64 V.cy, .int .i64 V.ck, vg, vs, vo, .int .i64 V.gr, .int .i64 V.nt, .int .i64 V.rt] 32)
  rw [hW1] at hb1 k1
  have c1 := explore_any (h.below hb1) hf 0
  have g0 : W1.cell? ⟨w.heap.size, 0, none⟩ = some (.int .i64 V.ph) := cell_of k1 rfl
  have g1 : W1.cell? ⟨w.heap.size, 1, none⟩ = some (.int .i64 V.cy) := cell_of k1 rfl
  have g2 : W1.cell? ⟨w.heap.size, 2, none⟩ = some (.int .i64 V.ck) := cell_of k1 rfl
  have g3 : W1.cell? ⟨w.heap.size, 3, none⟩ = some vg := cell_of k1 rfl
  have g4 : W1.cell? ⟨w.heap.size, 4, none⟩ = some vs := cell_of k1 rfl
  have g5 : W1.cell? ⟨w.heap.size, 5, none⟩ = some vo := cell_of k1 rfl
  have g6 : W1.cell? ⟨w.heap.size, 6, none⟩ = some (.int .i64 V.gr) := cell_of k1 rfl
  have g7 : W1.cell? ⟨w.heap.size, 7, none⟩ = some (.int .i64 V.nt) := cell_of k1 rfl
  have g8 : W1.cell? ⟨w.heap.size, 8, none⟩ = some (.int .i64 V.rt) := cell_of k1 rfl
  replace hb1 := Lib.hid hb1
  unfold vv at c1 ⊢
  unfold ExR at c1
  clear h hf k1
  go_enter Try.func26, Try.ntmps26
  go_upto_region 1 with fail
  try rw [hW1]
  clear hW1
  go_wp2_with fail
  with_reducible refine Calls.mono c1 ?_
  rintro e w2 ⟨p, b1, b2, ov, lv, n1, n2, L, lost, i, pre, rfl, hwk, hfin, hL, hlo⟩
  clear c1 g0 g1 g2 g3 g4 g5 g6 g7 g8
  have c3 : w2.cell? ⟨p, 3, none⟩ = some ov := cell_of hwk.head rfl
  obtain ⟨f1, f2, f3⟩ := hfin.whole
  have hol : (ord L).length = L.length := by unfold ord; rw [List.length_map]
  have hin := (ints_grow (lo := 0) hwk.ord (by omega) (fun _ _ => Nat.zero_le _))
  obtain ⟨spo, cpo, eo⟩ := hwk.ord.slice
  rw [eo] at c3 hin
  have hb2 := Lib.hid (hb1.out.trans (hwk.bel.mono hb1.out.size))
  have cv := values_any spo (ord L).length cpo w2
  have hb3 := below_alloc (Below.refl _ w2) (.cells #[.slice spo (ord L).length cpo] 23)
  have k3 := heap_alloc_new w2 (.cells #[.slice spo (ord L).length cpo] 23)
  have cs := sorted_any (zs := ord L) (sv := .slice spo (ord L).length cpo) (Bs := w2.heap.size) (w := w2.alloc (.cells #[.slice spo (ord L).length cpo] 23)) (by omega) (block_lt k3) (cell_of k3 rfl) (ints_wide (lo := 0) (hin.below hb3))
  have key : Hid (∀ v ts w4, ts.Perm (ord L) → ts.Pairwise (· ≤ ·) → Ints w4 (fun k => (w2.alloc (.cells #[.slice spo (ord L).length cpo] 23)).heap.size ≤ k) v ts → Below (w2.alloc (.cells #[.slice spo (ord L).length cpo] 23)).heap.size (w2.alloc (.cells #[.slice spo (ord L).length cpo] 23)) w4 → ReachV w V (.returned v) w4) := Lib.hid fun v ts w4 hp hs hi hb => by
    have hb5 := hb2.out.trans (hb3.mono hb2.out.size)
    refine ⟨v, ts, rfl, ⟨sorted_up hp hs f1.nodup, fun a => by rw [hp.mem_iff]; exact f1.mem f2 f3⟩, hi.wider (fun k hk _ => Nat.le_trans hb5.size hk), hb5.trans (hb.mono hb5.size)⟩
  generalize (ord L).length = m at *
  clear hwk hfin hin eo hol f1 f2 f3 hb3 k3 hlo hL
  go_wp2_with fail
  with_reducible refine Calls.mono cv ?_
  rintro e w3 ⟨rfl, rfl⟩
  clear cv
  go_wp2_with fail
  with_reducible refine Calls.mono cs ?_
  rintro e w4 ⟨v, ts, rfl, q1, q2, q3, q4⟩
  have hf4 := Lib.hid (key.out v ts w4 q1 q2 q3 q4)
  clear cs key q1 q2 q3 q4
  go_wp2_with fail
  go_ret
  exact hf4.out
set_option maxRecDepth 100000 in
set_option maxHeartbeats 4000000 in
theorem viewLost_any (h : IsV w V vg vs vo) (hf : Fw V) : Calls Try.prog 30 #[vv V vg vs vo] w (LostV w V) := by
  obtain ⟨W1, hW1⟩ : ∃ W1, w.alloc (.cells #[.int .i64 V.ph, .int .i64 V.cy, .int .i64 V.ck, vg, vs, vo, .int .i64 V.gr, .int .i64 V.nt, .int .i64 V.rt] 32) = W1 := ⟨_, rfl⟩
  have hb1 := below_alloc (Below.refl _ w) (.cells #[.int .i64 V.ph, .int .i64 V.cy, .int .i64 V.ck, vg, vs, vo, .int .i64 V.gr, .int .i64 V.nt, .int .i64 V.rt] 32)
  have k1 := heap_alloc_new w (.cells #[.int .i64 V.ph, .int .i64 V.cy, .int .i64 V.ck, vg, vs, vo, .int .i64 V.gr, .int .i64 V.nt, .int .i64 V.rt] 32)
  rw [hW1] at hb1 k1
  have c1 := explore_any (h.below hb1) hf 0
  have g0 : W1.cell? ⟨w.heap.size, 0, none⟩ = some (.int .i64 V.ph) := cell_of k1 rfl
  have g1 : W1.cell? ⟨w.heap.size, 1, none⟩ = some (.int .i64 V.cy) := cell_of k1 rfl
  have g2 : W1.cell? ⟨w.heap.size, 2, none⟩ = some (.int .i64 V.ck) := cell_of k1 rfl
  have g3 : W1.cell? ⟨w.heap.size, 3, none⟩ = some vg := cell_of k1 rfl
  have g4 : W1.cell? ⟨w.heap.size, 4, none⟩ = some vs := cell_of k1 rfl
  have g5 : W1.cell? ⟨w.heap.size, 5, none⟩ = some vo := cell_of k1 rfl
  have g6 : W1.cell? ⟨w.heap.size, 6, none⟩ = some (.int .i64 V.gr) := cell_of k1 rfl
  have g7 : W1.cell? ⟨w.heap.size, 7, none⟩ = some (.int .i64 V.nt) := cell_of k1 rfl
  have g8 : W1.cell? ⟨w.heap.size, 8, none⟩ = some (.int .i64 V.rt) := cell_of k1 rfl
  replace hb1 := Lib.hid hb1
  unfold vv at c1 ⊢
  unfold ExR at c1
  clear h hf k1
  go_enter Try.func30, Try.ntmps30
  go_upto_region 1 with fail
  try rw [hW1]
  clear hW1
  go_wp2_with fail
  with_reducible refine Calls.mono c1 ?_
  rintro e w2 ⟨p, b1, b2, ov, lv, n1, n2, L, lost, i, pre, rfl, hwk, hfin, hL, hlo⟩
  clear c1 g0 g1 g2 g3 g4 g5 g6 g7 g8
  have c3 : w2.cell? ⟨p, 4, none⟩ = some lv := cell_of hwk.head rfl
  obtain ⟨f1, f2, f3⟩ := hfin.whole
  have hin := (ints_grow (lo := 0) hwk.lost (by omega) (fun _ _ => Nat.zero_le _))
  have cr := rising_any hin (by omega)
  obtain ⟨spo, cpo, eo⟩ := hwk.lost.slice
  rw [eo] at c3 cr
  have hb2 := Lib.hid (hb1.out.trans (hwk.bel.mono hb1.out.size))
  have key : Hid (∀ v ts w4, Ris lost ts → Ints w4 (fun k => w2.heap.size ≤ k) v ts → Below w2.heap.size w2 w4 → LostV w V (.returned v) w4) := Lib.hid fun v ts w4 hr hi hb => by
    refine ⟨v, ts, rfl, ⟨hr.up, fun a => ?_⟩, hi.wider (fun k hk _ => Nat.le_trans hb2.out.size hk), hb2.out.trans (hb.mono hb2.out.size)⟩
    rw [hr.mem, f1.loses f2 f3]
    exact ⟨fun h => h.1, fun h => ⟨h, h.2.1⟩⟩
  generalize lost.length = m at *
  clear hwk hfin hin eo f1 f2 f3 hlo hL
  go_wp2_with fail
  with_reducible refine Calls.mono cr ?_
  rintro e w4 ⟨v, ts, rfl, q1, q2, -, q4⟩
  have hf4 := Lib.hid (key.out v ts w4 q1 q2 q4)
  clear cr key q1 q2 q4
  go_wp2_with fail
  go_ret
  exact hf4.out
end Vw
end Go.Proofs.Ytneibhcigbfigaa
