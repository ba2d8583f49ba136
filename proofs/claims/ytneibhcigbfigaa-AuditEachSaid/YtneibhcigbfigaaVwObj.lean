/- View: the first object at an address (walk.object). -/
import Derived.Test.YtneibhcigbfigaaVwWk
namespace Go.Proofs.Ytneibhcigbfigaa
open Go.RowKit Go.Lib Fx Ho Gr
set_option linter.unusedVariables false
namespace Vw
variable {B w w' W W1 w8 : World} {p b1 b2 n1 n2 i k : Nat} {v v8 vo ov lv : Value} {O lost : List Int} {m1 m2 : Int → Option Int} {a x y : Int} {H H' : Home} {os : List Ob} {L : List Ent}
/-- What asking for an object wants of the walk. -/
structure Wo (B w : World) (p b1 b2 : Nat) (vo ov lv : Value) (n1 : Nat) (m1 : Int → Option Int) : Prop where
  head : w.heap[p]? = some (.cells #[vo, .map (some b1), .map (some b2), ov, lv] 88 (0, 0))
  at_ : Mp.OMap w b1 n1 m1
  bel : Below B.heap.size B w
theorem Wk.wo (h : Wk B w p b1 b2 vo ov lv n1 n2 m1 m2 O lost) : Wo B w p b1 b2 vo ov lv n1 m1 := ⟨h.head, h.at_, h.bel⟩
theorem Wo.below (h : Wo B w p b1 b2 vo ov lv n1 m1) (hb : Below w.heap.size w w') : Wo B w' p b1 b2 vo ov lv n1 m1 := ⟨(hb.block p (block_lt h.head)).trans h.head, h.at_.below hb, h.bel.trans (hb.mono h.bel.size)⟩
theorem Wo.wrote (h : Wo B w p b1 b2 vo ov lv n1 m1) (hw : Wrote H w H' w') (h1 : ¬ H p) (h2 : ¬ H b1) (h3 : ∀ k, H k → B.heap.size ≤ k) : Wo B w' p b1 b2 vo ov lv n1 m1 := ⟨(hw.block p (block_lt h.head) h1).trans h.head, h.at_.wrote hw h2, below_w h.bel hw h3⟩
theorem Wo.look1 (h : Wo B w p b1 b2 vo ov lv n1 m1) (ha : WfI a) (c : Bool) : (Instr.lookup 78 (.map (some b1)) (.int .i64 a) c).run Try.prog w = .ok (if c then .tuple #[.int .i64 ((m1 a).getD 0), .bool (m1 a).isSome] else .int .i64 ((m1 a).getD 0)) w := by
  cases c with
  | true => exact h.at_.look Try.underlying78 (zI2 w) ha
  | false => exact h.at_.look1 Try.underlying78 (zI2 w) ha
/-- The first object at an address where there is one. -/
def ObjR (B w : World) (o : Ob) (e : Ending) (w' : World) : Prop := ∃ sv, e = .returned (.agg #[.int .i64 o.1, sv, .bool o.2.2]) ∧ Ints B Any sv o.2.1 ∧ Below w.heap.size w w'
set_option maxRecDepth 100000 in
set_option maxHeartbeats 4000000 in
theorem object_any (h : Wo B w p b1 b2 vo ov lv n1 (mI os)) (ho : OsRow B vo os) (ha : WfI a) (hk : fidx os a = some k) (hl : os.length ≤ 1000) : Calls Try.prog 70 #[.pointer (some ⟨p, 0, none⟩), .int .i64 a] w (ObjR B w (os.getD k o0)) := by
  obtain ⟨hk1, _, _⟩ := fidx_some hk
  have hbel := h.bel
  have h1 := h.below (below_alloc (Below.refl _ w) (.cells #[.int .i64 0, .slice none 0 0, .bool false] 29))
  have kO := heap_alloc_new w (.cells #[.int .i64 0, .slice none 0 0, .bool false] 29)
  have hb1 := below_alloc (Below.refl _ w) (.cells #[.int .i64 0, .slice none 0 0, .bool false] 29)
  obtain ⟨U, hU⟩ : ∃ U, w.alloc (.cells #[.int .i64 0, .slice none 0 0, .bool false] 29) = U := ⟨_, rfl⟩
  rw [hU] at h1 kO hb1
  have d0 : U.cell? ⟨p, 0, none⟩ = some vo := cell_of h1.head rfl
  have d1 : U.cell? ⟨p, 1, none⟩ = some (.map (some b1)) := cell_of h1.head rfl
  have l1 := ((h1.below (Below.refl _ _).drew).look1 ha false)
  rw [if_neg (by decide)] at l1
  have hm : mI os a = some (k : Int) := by unfold mI; rw [hk]; rfl
  rw [hm] at l1
  change _ = Result.ok (Value.int .i64 (k : Int)) U.drew at l1
  obtain ⟨sp, cap, rfl, hmx, hos⟩ := ho
  obtain ⟨b, off, sv, rfl, _, e3, e4, e5, e6⟩ := hos k hk1
  have hBU := h1.bel
  have c3 := (hBU.cell (World.block_lt_of_cell? _ _ e3)).trans e3
  have c4 := (hBU.cell (World.block_lt_of_cell? _ _ e4)).trans e4
  have c5 := (hBU.cell (World.block_lt_of_cell? _ _ e5)).trans e5
  obtain ⟨o, hoe⟩ : ∃ o, os.getD k o0 = o := ⟨_, rfl⟩
  rw [hoe] at c3 c5 e6 ⊢
  obtain ⟨oa, ol, om⟩ := o
  obtain ⟨m, hm0⟩ : ∃ m, os.length = m := ⟨_, rfl⟩
  rw [hm0] at d0 hk1 hl hmx
  have hfin : Hid (∀ W, Below w.heap.size w W → ObjR B w (oa, ol, om) (.returned (.agg #[.int .i64 oa, sv, .bool om])) W) := Lib.hid fun W hb => ⟨sv, rfl, e6, hb⟩
  obtain ⟨s2, p2, rfl, -⟩ := id e6
  obtain ⟨n3, hn3⟩ : ∃ n, ol.length = n := ⟨_, rfl⟩
  have c3 : U.cell? ⟨b, off + k * 3, none⟩ = some (.int .i64 oa) := c3
  have c5 : U.cell? ⟨b, off + k * 3 + 2, none⟩ = some (.bool om) := c5
  have k0 : (0 : Int) ≤ (k : Int) := by omega
  have k2 : (k : Int) < (m : Int) := by omega
  have hs : U.heap.size = w.heap.size + 1 := by rw [← hU, s_alloc]
  obtain ⟨N, hN⟩ : ∃ N, w.heap.size = N := ⟨_, rfl⟩
  have kO2 : U.heap[N]? = some (.cells #[.int .i64 0, .slice none 0 0, .bool false] 29 (0, 0)) := by rw [← hN]; exact kO
  have f0 : U.frozen? ⟨N, 0, none⟩ = false := frozen_of_row _ _ _ _ _ kO2
  have f1 : U.frozen? ⟨N, 1, none⟩ = false := frozen_of_row _ _ _ _ _ kO2
  have f2 : U.frozen? ⟨N, 2, none⟩ = false := frozen_of_row _ _ _ _ _ kO2
  have z0 : U.cell? ⟨N, 0, none⟩ = some (.int .i64 0) := cell_of kO2 rfl
  have z1 : U.cell? ⟨N, 1, none⟩ = some (.slice none 0 0) := cell_of kO2 rfl
  have z2 : U.cell? ⟨N, 2, none⟩ = some (.bool false) := cell_of kO2 rfl
  replace hb1 := Lib.hid hb1
  replace kO2 := Lib.hid kO2
  replace hs := Lib.hid hs
  rw [hn3] at c4 hfin
  clear h h1 hos e3 e4 e5 e6 hbel hBU kO hk hm hoe hn3 hm0
  go_enter Try.func70, Try.ntmps70
  go_upto_region 1 with fail
  try rw [hU]
  clear hU
  try rw [hN]
  go_still_tail 12, (by kernel_rfl)
  change wpList _ _ _ _ _ U.drew
  have kO3 : U.drew.heap[N]? = some (.cells #[.int .i64 0, .slice none 0 0, .bool false] 29 (0, 0)) := kO2.out
  have hb2 : Hid (Below w.heap.size w U.drew) := Lib.hid hb1.out.drew
  have hNN : Hid (w.heap.size = N) := Lib.hid hN
  obtain ⟨W1, hW1⟩ : ∃ W1, U.drew = W1 := ⟨_, rfl⟩
  rw [hW1] at kO3 hb2 ⊢
  clear hW1 d0 d1 l1 c3 c4 c5 f0 f1 f2 z0 z1 z2 kO2 hb1 hs hN
  have f0 : W1.frozen? ⟨N, 0, none⟩ = false := frozen_of_row _ _ _ _ _ kO3
  have f1 : W1.frozen? ⟨N, 1, none⟩ = false := frozen_of_row _ _ _ _ _ kO3
  have f2 : W1.frozen? ⟨N, 2, none⟩ = false := frozen_of_row _ _ _ _ _ kO3
  have z0 : W1.cell? ⟨N, 0, none⟩ = some (.int .i64 0) := cell_of kO3 rfl
  have z1 : W1.cell? ⟨N, 1, none⟩ = some (.slice none 0 0) := cell_of kO3 rfl
  have z2 : W1.cell? ⟨N, 2, none⟩ = some (.bool false) := cell_of kO3 rfl
  replace kO3 := Lib.hid kO3
  go_wp2_with fail
  have q0 := heap_setCell_same W1 N 0 _ _ (.int .i64 oa) kO3.out
  have q1 := heap_setCell_same _ N 1 _ _ (.slice s2 n3 p2) q0
  have q2 := heap_setCell_same _ N 2 _ _ (.bool om) q1
  have q3 : (((W1.setCell ⟨N, 0, none⟩ (.int .i64 oa)).setCell ⟨N, 1, none⟩ (.slice s2 n3 p2)).setCell ⟨N, 2, none⟩ (.bool om)).heap[N]? = some (.cells #[.int .i64 oa, .slice s2 n3 p2, .bool om] 29 (0, 0)) := q2
  have hle : w.heap.size ≤ N := by rw [hNN.out]; exact Nat.le_refl _
  refine bodyPost_ret (results_cell_row (by rfl) _ _ N 29 _ (0, 0) _ rfl q3 Try.underlying29 rfl (by kernel_rfl)) rfl ?_
  exact hfin.out _ (((hb2.out.setCell (p := ⟨N, 0, none⟩) hle _).setCell (p := ⟨N, 1, none⟩) hle _).setCell (p := ⟨N, 2, none⟩) hle _)
end Vw
end Go.Proofs.Ytneibhcigbfigaa
