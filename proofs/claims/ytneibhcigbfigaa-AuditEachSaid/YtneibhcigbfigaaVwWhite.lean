/- View: what can be reached and is not marked (view.White). -/
import Derived.Test.YtneibhcigbfigaaVwReach
namespace Go.Proofs.Ytneibhcigbfigaa
open Go.RowKit Go.Lib Fx Ho Gr
set_option linter.unusedVariables false
namespace Vw
variable {B w w' W : World} {p b1 b2 n1 n2 i k q : Nat} {v vg vs vo ov lv : Value} {O lost pre zs : List Int} {a x : Int} {os : List Ob} {L : List Ent} {V : Vi}
/-- Whether the first object at an address is marked. -/
def mkd (os : List Ob) (a : Int) : Bool := match fidx os a with
  | some k => (os.getD k o0).2.2
  | none => false
set_option maxRecDepth 100000 in
set_option maxHeartbeats 2000000 in
theorem white1_any (h : Wo B W p b1 b2 vo ov lv n1 (mI os)) (ho : OsRow B vo os) (hl : os.length ≤ 1000) (ha : WfI a) (hin : a ∈ ads os) (hq : W.cell? ⟨q, 0, none⟩ = some (.pointer (some ⟨p, 0, none⟩))) : Calls Try.prog 69 #[.int .i64 a, .pointer (some ⟨q, 0, none⟩)] W fun e w' => e = .returned (.bool (mkd os a)) ∧ Below W.heap.size W w' := by
  obtain ⟨k, hk⟩ : ∃ k, fidx os a = some k := by
    cases e : fidx os a with
    | none => exact absurd hin (fidx_none.1 e)
    | some k => exact ⟨k, rfl⟩
  have co := object_any h ho ha hk hl
  have hm : mkd os a = (os.getD k o0).2.2 := by unfold mkd; rw [hk]
  rw [hm]
  unfold ObjR at co
  obtain ⟨fa, hfa⟩ : ∃ fa, (os.getD k o0).1 = fa := ⟨_, rfl⟩
  obtain ⟨fb, hfb⟩ : ∃ fb, (os.getD k o0).2.2 = fb := ⟨_, rfl⟩
  rw [hfa, hfb] at co
  rw [hfb]
  have hf1 : ∀ (sv : Value) W, (Instr.field 29 (.agg #[.int .i64 fa, sv, .bool fb]) 2).run Try.prog W = .ok (.bool fb) W := fun _ W => by rfl
  clear h ho hl ha hin hk hm hfa hfb
  go_enter Try.func69, Try.ntmps69
  go_wp2_with fail
  with_reducible refine Calls.mono co ?_
  rintro e w2 ⟨sv, rfl, -, hb⟩
  replace hb := Lib.hid hb
  clear co
  go_wp2_with fail
  go_ret
  exact ⟨rfl, hb.out⟩
/-- Those that can be reached and are not marked, rising. -/
structure WhtL (V : Vi) (ts : List Int) : Prop where
  up : ts.Pairwise (· < ·)
  mem : ∀ a, a ∈ ts ↔ Rch (rootsL V.gl V.gs) V.os a ∧ mkd V.os a = false
def WhiteV (w : World) (V : Vi) (e : Ending) (w' : World) : Prop := ∃ v ts, e = .returned v ∧ WhtL V ts ∧ Ints w' (fun k => w.heap.size ≤ k) v ts ∧ Below w.heap.size w w'
theorem rw0_slice {lo : Nat} (h : Rw0 lo w v zs) : ∃ s n c, v = .slice s n c := by
  rcases h with ⟨b, off, cap, e, _⟩ | ⟨_, a, cap, e, _⟩
  · exact ⟨_, _, _, e⟩
  · exact ⟨_, _, _, e⟩
set_option maxRecDepth 100000 in
set_option maxHeartbeats 4000000 in
theorem viewWhite_any (h : IsV w V vg vs vo) (hf : Fw V) : Calls Try.prog 28 #[vv V vg vs vo] w (WhiteV w V) := by
  obtain ⟨W1, hW1⟩ : ∃ W1, w.alloc (.cells #[.int .i64 V.ph, .int .i64 V.cy, .int .i64 V.ck, vg, vs, vo, .int .i64 V.gr, .int .i64 V.nt, .int .i64 V.rt] 32) = W1 := ⟨_, rfl⟩
  have hb1 := below_alloc (Below.refl _ w) (.cells #[.int .i64 V.ph, .int .i64 V.cy, .int .i64 V.ck, vg, vs, vo, .int .i64 V.gr, .int .i64 V.nt, .int .i64 V.rt] 32)
  have k1 := heap_alloc_new w (.cells #[.int .i64 V.ph, .int .i64 V.cy, .int .i64 V.ck, vg, vs, vo, .int .i64 V.gr, .int .i64 V.nt, .int .i64 V.rt] 32)
  rw [hW1] at hb1 k1
  have c1 := explore_any (h.below hb1) hf 0
  have g0 : W1.cell? ⟨w.heap.size, 0, none⟩ = some (.int .i64 V.ph) := cell_of k1 rfl
  have g1 : W1.cell? ⟨w.heap.size, 1, none⟩ = some (.int .i64 V.cy) := cell_of k1 rfl
  have g2 : W1.cell? ⟨w.heap.size, 2, none⟩ = some (.int .i64 V.ck) := cell_of k1 rfl
  have g3 : W1.cell? ⟨w.heap.size, 3, none⟩ = some vg := cell_of k1 rfl
  have g4 : W1.cell? ⟨w.heap.size, 4, none⟩ = some vs := cell_of k1 rfl
  have g5 : W1.cell? ⟨w.heap.size, 5, none⟩ = some vo := cell_of k1 rfl
  have g6 : W1.cell? ⟨w.heap.size, 6, none⟩ = some (.int .i64 V.gr) := cell_of k1 rfl
  have g7 : W1.cell? ⟨w.heap.size, 7, none⟩ = some (.int .i64 V.nt) := cell_of k1 rfl
  have g8 : W1.cell? ⟨w.heap.size, 8, none⟩ = some (.int .i64 V.rt) := cell_of k1 rfl
  have ho1 := Lib.hid (h.below hb1)
  have hol := Lib.hid hf.os
  replace hb1 := Lib.hid hb1
  unfold vv at c1 ⊢
  unfold ExR at c1
  clear h hf k1
  have hmf : ∀ (fn : Fn) (first cap : Array Value) (w : World), (Instr.makeFunc fn first cap).run Try.prog w = .ok (.func fn first cap) w := fun _ _ _ _ => rfl
  go_enter Try.func28, Try.ntmps28
  go_upto_region 1 with fail
  try rw [hW1]
  clear hW1
  go_wp2_with fail
  with_reducible refine Calls.mono c1 ?_
  rintro e w2 ⟨p, b1, b2, ov, lv, n1, n2, L, lost, i, pre, rfl, hwk, hfin, hL, hlo⟩
  clear c1 g0 g1 g2 g3 g4 g5 g6 g7 g8
  obtain ⟨f1, f2, f3⟩ := hfin.whole
  go_upto_region 2 with fail
  have hb3 := below_alloc (Below.refl _ w2) (.cells #[.pointer (some ⟨p, 0, none⟩)] 89)
  have k3 := heap_alloc_new w2 (.cells #[.pointer (some ⟨p, 0, none⟩)] 89)
  obtain ⟨W3, hW3⟩ : ∃ W3, w2.alloc (.cells #[.pointer (some ⟨p, 0, none⟩)] 89) = W3 := ⟨_, rfl⟩
  rw [hW3] at hb3 k3
  try rw [hW3]
  obtain ⟨q, hq⟩ : ∃ q, w2.heap.size = q := ⟨_, rfl⟩
  rw [hq] at k3
  try rw [hq]
  have hwk3 := hwk.below hb3
  have e0 : W3.cell? ⟨q, 0, none⟩ = some (.pointer (some ⟨p, 0, none⟩)) := cell_of k3 rfl
  have e3 : W3.cell? ⟨p, 3, none⟩ = some ov := cell_of hwk3.head rfl
  have hpq : p ≠ q := by have := block_lt hwk.head; omega
  have hbq : b1 ≠ q := by have := hwk.at_.lt; omega
  have hoq : ov.ownBlock ≠ some q := fun e => by have := hwk.ord.lt e; omega
  have hWq : w.heap.size ≤ q := by have := hwk.bel.size; have := hb1.out.size; omega
  obtain ⟨a1, a2, a3, a4, a5, a6, a7, a8, a9, a10⟩ := hwk.ap
  have hlow := hwk.low
  have hrow3 := rw0_grow (lo := W1.heap.size) hwk3.ord (by unfold ord; rw [List.length_map]; omega) hlow.2.2.2.1
  have hpd : Pd 69 #[.pointer (some ⟨q, 0, none⟩)] (mkd V.os) (ord L) ov.ownBlock (fun W => Wo W1 W p b1 b2 vo ov lv n1 (mI V.os) ∧ W.cell? ⟨q, 0, none⟩ = some (.pointer (some ⟨p, 0, none⟩))) := by
    refine ⟨enters_of Try.func69 (by kernel_rfl) rfl, fun x hx W ⟨h1, h2⟩ => ?_, fun W W' ⟨h1, h2⟩ hw => ⟨h1.wrote hw (fun e => a4 e) (fun e => a5 e) (fun k e => hlow.2.2.2.1 k e), hw.cell h2 (fun e => hoq e)⟩⟩
    obtain ⟨s, hs⟩ := mem_ord.1 hx
    obtain ⟨_, i2, _⟩ := f1.old _ hs
    have hwx : WfI x := by
      obtain ⟨o, ho, e⟩ := List.mem_map.1 i2
      have := ho1.out.wf.oa o ho
      rw [e] at this
      exact this
    exact white1_any h1 ho1.out.os (by have := hol.out; omega) hwx i2 h2
  have hWo : Wo W1 W3.drew p b1 b2 vo ov lv n1 (mI V.os) := (hwk3.below (Below.refl _ _).drew).wo
  have cd := del_any hpd ⟨hWo, e0⟩ (hrow3.wrote (H := fun _ => False) (H' := fun _ => False) (Wrote.of_below (Below.refl _ _).drew) (fun _ _ h => h))
  have hbW : Hid (Below W1.heap.size W1 W3) := Lib.hid hwk3.bel
  obtain ⟨spo, no, cpo, eo⟩ := rw0_slice hrow3
  have hk3 : Hid (W3.heap[q]? = some (.cells #[.pointer (some ⟨p, 0, none⟩)] 89 (0, 0))) := Lib.hid k3
  have hh3 : Hid (W3.heap[p]? = some (.cells #[vo, .map (some b1), .map (some b2), ov, lv] 88 (0, 0))) := Lib.hid hwk3.head
  have key : Hid (∀ v' w5, Rw0 W1.heap.size w5 v' ((ord L).filter fun x => !mkd V.os x) → v'.ownBlock = ov.ownBlock → Wrote (fun k => ov.ownBlock = some k) W3.drew (fun k => ov.ownBlock = some k) w5 → (∃ s n c, v' = .slice s n c) ∧ w5.cell? ⟨p, 3, none⟩ = some ov ∧ w5.frozen? ⟨p, 3, none⟩ = false ∧ w5.cell? ⟨q, 0, none⟩ = some (.pointer (some ⟨p, 0, none⟩)) ∧ Hid (Rw0 W1.heap.size (w5.setCell ⟨p, 3, none⟩ v') v' ((ord L).filter fun x => !mkd V.os x) ∧ Below W1.heap.size W1 (w5.setCell ⟨p, 3, none⟩ v') ∧ (w5.setCell ⟨p, 3, none⟩ v').cell? ⟨p, 3, none⟩ = some v' ∧ (w5.setCell ⟨p, 3, none⟩ v').cell? ⟨q, 0, none⟩ = some (.pointer (some ⟨p, 0, none⟩)) ∧ v'.ownBlock ≠ some p ∧ v'.ownBlock ≠ some q)) := Lib.hid fun v' w5 h1 h2 h3 => by
    have hp5 : w5.heap[p]? = _ := (h3.block p (by have := block_lt hwk3.head; exact this) (fun e => a4 e)).trans hwk3.head
    have hq5 : w5.heap[q]? = _ := (h3.block q (by have := block_lt k3; exact this) (fun e => hoq e)).trans k3
    have w5s : Wrote (fun k => k = p) w5 (fun k => k = p) (w5.setCell ⟨p, 3, none⟩ v') := wrote_setCell (a := ⟨p, 3, none⟩) rfl rfl rfl rfl rfl
    have hb5 : Below W1.heap.size W1 w5 := below_w hbW.out.drew h3 (fun k hk => hlow.2.2.2.1 k hk)
    refine ⟨rw0_slice h1, cell_of hp5 rfl, frozen_of_row _ _ _ _ _ hp5, cell_of hq5 rfl, Lib.hid ⟨h1.wrote w5s (fun k hk e => a4 (by rw [← h2, hk, e])), below_w hb5 w5s (fun k e => by rw [e]; exact hlow.1), World.cell?_setCell_same _ _ _ (cell_of hp5 (j := 3) rfl), w5s.cell (cell_of hq5 rfl) (fun e => hpq e.symm), by rw [h2]; exact a4, by rw [h2]; exact hoq⟩⟩
  have kfin : Hid (∀ v' ts w6, ts.Perm ((ord L).filter fun x => !mkd V.os x) → ts.Pairwise (· ≤ ·) → Rw0 W1.heap.size w6 v' ts → Below W1.heap.size W1 w6 → WhiteV w V (.returned v') w6) := Lib.hid fun v' ts w6 hp hs h1 h2 => by
    refine ⟨v', ts, rfl, ⟨sorted_up hp hs (f1.nodup.filter _), fun a => ?_⟩, h1.ints.wider (fun k hk _ => Nat.le_trans hb1.out.size hk), hb1.out.trans (h2.mono hb1.out.size)⟩
    rw [hp.mem_iff, List.mem_filter, f1.mem f2 f3]
    simp
  rw [eo] at e3 cd key
  clear hwk hwk3 hfin f1 f2 f3 hL hlo hb3 k3 hW3 hq hpd hWo hrow3 a1 a2 a3 a4 a5 a6 a7 a8 a9 a10 hlow hoq hbq
  obtain ⟨FL, hFL⟩ : ∃ FL, (ord L).filter (fun x => !mkd V.os x) = FL := ⟨_, rfl⟩
  rw [hFL] at cd key kfin
  clear hFL
  go_cut [12] (fun u12 wx => ∃ v', u12 = v' ∧ Hid (Rw0 W1.heap.size wx v' FL ∧ Below W1.heap.size W1 wx ∧ wx.cell? ⟨p, 3, none⟩ = some v' ∧ wx.cell? ⟨q, 0, none⟩ = some (.pointer (some ⟨p, 0, none⟩)) ∧ v'.ownBlock ≠ some p ∧ v'.ownBlock ≠ some q))
  case first =>
    go_region_with (first | (go_at_call 68; ((refine Calls.mono cd ?_); rintro e w5 ⟨v', rfl, r1, r2, r3⟩; obtain ⟨⟨s5, n5, c5, rfl⟩, r4, r5, r6, r7⟩ := key.out _ w5 r1 r2 r3; clear r1 r2 r3)))
    all_goals
      go_wp2_with fail
      go_meet
      exact ⟨_, rfl, r7⟩
  case rest =>
    obtain ⟨v', rfl, hr⟩ := hcut
    obtain ⟨r1, r2, r3, r4, r5, r6⟩ := hr.out
    have cs := sort_any r1
    have hlow := Lib.hid r1.low
    replace r2 := Lib.hid r2
    replace r5 := Lib.hid r5
    replace r6 := Lib.hid r6
    clear cd key hr r1 e0 e3 eo hk3 hh3
    go_wp2_with fail
    with_reducible refine Calls.mono cs ?_
    rintro e w6 ⟨rfl, ts, q1, q2, q3, q4⟩
    have d3 := q4.cell r3 (fun e => r5.out e)
    have d4 := q4.cell r4 (fun e => r6.out e)
    have hf4 := Lib.hid (kfin.out _ ts w6 q1 q2 q3 (below_wrote q4 r2.out hlow.out))
    clear cs q1 q2 q3 q4 r3 r4
    go_wp2_with fail
    go_ret
    exact hf4.out
end Vw
end Go.Proofs.Ytneibhcigbfigaa
