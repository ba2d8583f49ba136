/- Audit: all rules that a view breaks, the first one, a rule's word. -/
import Derived.Laws.EntriesVeiled
import Derived.Test.YtneibhcigbfigaaVwAu3
namespace Go.Proofs.Ytneibhcigbfigaa
open Go.RowKit Go.Lib Fx Ho Gr Go.Sort
set_option linter.unusedVariables false
set_option linter.unusedSimpArgs false
namespace Vw
variable {w w' W W' : World} {vg vs vo : Value} {V : Vi} {i k n : Nat} {ps : Int}
def ruF : Nat → Nat
  | 0 => 91
  | 1 => 92
  | 2 => 93
  | 3 => 94
  | 4 => 95
  | 5 => 96
  | 6 => 97
  | _ => 98
def ruT : Nat → ByteArray
  | 0 => ⟨#[108, 111, 115, 116]⟩
  | 1 => ⟨#[111, 98, 106, 101, 99, 116, 115]⟩
  | 2 => ⟨#[116, 119, 105, 99, 101]⟩
  | 3 => ⟨#[112, 108, 97, 99, 101, 115]⟩
  | 4 => ⟨#[119, 111, 114, 107]⟩
  | 5 => ⟨#[119, 104, 105, 116, 101]⟩
  | 6 => ⟨#[110, 117, 109, 98, 101, 114, 115]⟩
  | _ => ⟨#[109, 97, 114, 107, 101, 100]⟩
/-- The rule of a number is broken. -/
def Brk (V : Vi) (ps : Int) : Nat → Prop
  | 0 => Lo V
  | 1 => Obj V
  | 2 => Tw V
  | 3 => Plc ps V
  | 4 => Wrk V
  | 5 => Wh V
  | 6 => Num V
  | _ => Mkd V
open Classical in
/-- The broken ones of the first n rules. -/
noncomputable def brkN (V : Vi) (ps : Int) : Nat → List Int
  | 0 => []
  | n + 1 => brkN V ps n ++ (if Brk V ps n then [(n : Int) + 1] else [])
theorem brkN_t (h : Brk V ps n) : brkN V ps (n + 1) = brkN V ps n ++ [(n : Int) + 1] := by
  show brkN V ps n ++ _ = _
  rw [if_pos h]
theorem brkN_f (h : ¬ Brk V ps n) : brkN V ps (n + 1) = brkN V ps n := by
  show brkN V ps n ++ _ = _
  rw [if_neg h, List.append_nil]
theorem brkN_len : (brkN V ps n).length ≤ n := by
  induction n with
  | zero => exact Nat.le_refl _
  | succ n ih =>
    by_cases h : Brk V ps n
    · rw [brkN_t h, List.length_append, List.length_singleton]; omega
    · rw [brkN_f h]; omega
theorem brkN_more (k : Nat) : ∃ l, brkN V ps (n + k) = brkN V ps n ++ l := by
  induction k with
  | zero => exact ⟨[], by rw [List.append_nil]; rfl⟩
  | succ k ih =>
    obtain ⟨l, e⟩ := ih
    by_cases h : Brk V ps (n + k)
    · exact ⟨l ++ [((n + k : Nat) : Int) + 1], by show brkN V ps (n + k + 1) = _; rw [brkN_t h, e, List.append_assoc]⟩
    · exact ⟨l, by show brkN V ps (n + k + 1) = _; rw [brkN_f h, e]⟩
theorem brkN_none (h : ∀ j, j < n → ¬ Brk V ps j) : brkN V ps n = [] := by
  induction n with
  | zero => rfl
  | succ n ih => rw [brkN_f (h n (by omega))]; exact ih fun j hj => h j (by omega)
theorem brk_first (hk : k < 8) (h0 : ∀ j, j < k → ¬ Brk V ps j) (h : Brk V ps k) : (brkN V ps 8).headD 0 = (k : Int) + 1 := by
  obtain ⟨l, e⟩ := brkN_more (V := V) (ps := ps) (n := k + 1) (7 - k)
  rw [show k + 1 + (7 - k) = 8 by omega, brkN_t h, brkN_none h0] at e
  rw [e]; rfl
theorem brk_one (hk : k < 8) (h0 : ∀ j, j < 8 → j ≠ k → ¬ Brk V ps j) (h : Brk V ps k) : brkN V ps 8 = [(k : Int) + 1] := by
  have h2 : ∀ n, k + 1 + n ≤ 8 → brkN V ps (k + 1 + n) = [(k : Int) + 1] := fun n => by
    induction n with
    | zero => exact fun _ => by rw [Nat.add_zero, brkN_t h, brkN_none fun j hj => h0 j (by omega) (by omega)]; rfl
    | succ n ih => exact fun hn => by rw [show k + 1 + (n + 1) = k + 1 + n + 1 by omega, brkN_f (h0 _ (by omega) (by omega))]; exact ih (by omega)
  have := h2 (7 - k) (by omega)
  rw [show k + 1 + (7 - k) = 8 by omega] at this
  exact this
/-- The table of rules in memory. -/
def RuAt (W : World) (R : Nat) : Prop := ∀ i, i < 8 → W.cell? ⟨R, i * 3, none⟩ = some (.int .i64 ((i : Int) + 1)) ∧ W.cell? ⟨R, i * 3 + 1, none⟩ = some (.string (ruT i)) ∧ W.cell? ⟨R, i * 3 + 2, none⟩ = some (.func (.func (ruF i)) #[] #[])
theorem RuAt.below {R : Nat} (h : RuAt W R) (hb : Below W.heap.size W W') : RuAt W' R := fun i hi => ⟨cell_then hb (h i hi).1, cell_then hb (h i hi).2.1, cell_then hb (h i hi).2.2⟩
theorem ruat_of {R : Nat} {t : TypeId} (k : W.heap[R]? = some (.cells #[.int .i64 1, .string ⟨#[108, 111, 115, 116]⟩, .func (.func 91) #[] #[], .int .i64 2, .string ⟨#[111, 98, 106, 101, 99, 116, 115]⟩, .func (.func 92) #[] #[], .int .i64 3, .string ⟨#[116, 119, 105, 99, 101]⟩, .func (.func 93) #[] #[], .int .i64 4, .string ⟨#[112, 108, 97, 99, 101, 115]⟩, .func (.func 94) #[] #[], .int .i64 5, .string ⟨#[119, 111, 114, 107]⟩, .func (.func 95) #[] #[], .int .i64 6, .string ⟨#[119, 104, 105, 116, 101]⟩, .func (.func 96) #[] #[], .int .i64 7, .string ⟨#[110, 117, 109, 98, 101, 114, 115]⟩, .func (.func 97) #[] #[], .int .i64 8, .string ⟨#[109, 97, 114, 107, 101, 100]⟩, .func (.func 98) #[] #[]] t (0, 0))) : RuAt W R := fun i hi => by
  rcases (show i = 0 ∨ i = 1 ∨ i = 2 ∨ i = 3 ∨ i = 4 ∨ i = 5 ∨ i = 6 ∨ i = 7 by omega) with rfl | rfl | rfl | rfl | rfl | rfl | rfl | rfl
  all_goals exact ⟨cell_of k rfl, cell_of k rfl, cell_of k rfl⟩
set_option maxRecDepth 100000 in
set_option maxHeartbeats 4000000 in
theorem rules_any (w : World) : Calls Try.prog 53 #[] w fun e w' => e = .returned (.slice (some ⟨w.heap.size, 0, none⟩) 8 8) ∧ Below w.heap.size w w' ∧ RuAt w' w.heap.size := by
  have k1 := heap_alloc_new w (.cells #[.int .i64 1, .string ⟨#[108, 111, 115, 116]⟩, .func (.func 91) #[] #[], .int .i64 2, .string ⟨#[111, 98, 106, 101, 99, 116, 115]⟩, .func (.func 92) #[] #[], .int .i64 3, .string ⟨#[116, 119, 105, 99, 101]⟩, .func (.func 93) #[] #[], .int .i64 4, .string ⟨#[112, 108, 97, 99, 101, 115]⟩, .func (.func 94) #[] #[], .int .i64 5, .string ⟨#[119, 111, 114, 107]⟩, .func (.func 95) #[] #[], .int .i64 6, .string ⟨#[119, 104, 105, 116, 101]⟩, .func (.func 96) #[] #[], .int .i64 7, .string ⟨#[110, 117, 109, 98, 101, 114, 115]⟩, .func (.func 97) #[] #[], .int .i64 8, .string ⟨#[109, 97, 114, 107, 101, 100]⟩, .func (.func 98) #[] #[]] 74)
  have b1 := below_alloc (Below.refl _ w) (.cells #[.int .i64 1, .string ⟨#[108, 111, 115, 116]⟩, .func (.func 91) #[] #[], .int .i64 2, .string ⟨#[111, 98, 106, 101, 99, 116, 115]⟩, .func (.func 92) #[] #[], .int .i64 3, .string ⟨#[116, 119, 105, 99, 101]⟩, .func (.func 93) #[] #[], .int .i64 4, .string ⟨#[112, 108, 97, 99, 101, 115]⟩, .func (.func 94) #[] #[], .int .i64 5, .string ⟨#[119, 111, 114, 107]⟩, .func (.func 95) #[] #[], .int .i64 6, .string ⟨#[119, 104, 105, 116, 101]⟩, .func (.func 96) #[] #[], .int .i64 7, .string ⟨#[110, 117, 109, 98, 101, 114, 115]⟩, .func (.func 97) #[] #[], .int .i64 8, .string ⟨#[109, 97, 114, 107, 101, 100]⟩, .func (.func 98) #[] #[]] 74)
  have hr := Lib.hid (ruat_of k1)
  replace b1 := Lib.hid b1
  clear k1
  go_enter Try.func53, Try.ntmps53
  go_wp2_with fail
  go_ret
  exact ⟨rfl, b1.out, hr.out⟩
theorem ru_enter : ∀ i, i < 8 → ∀ (args : Array Value) (W : World), Sem.run Try.prog (callFunc (ruF i) args) W = .ok (.enter (ruF i) args) W := fun i hi => by
  rcases (show i = 0 ∨ i = 1 ∨ i = 2 ∨ i = 3 ∨ i = 4 ∨ i = 5 ∨ i = 6 ∨ i = 7 by omega) with rfl | rfl | rfl | rfl | rfl | rfl | rfl | rfl
  · exact enters_of Try.func91 (by kernel_rfl) rfl
  · exact enters_of Try.func92 (by kernel_rfl) rfl
  · exact enters_of Try.func93 (by kernel_rfl) rfl
  · exact enters_of Try.func94 (by kernel_rfl) rfl
  · exact enters_of Try.func95 (by kernel_rfl) rfl
  · exact enters_of Try.func96 (by kernel_rfl) rfl
  · exact enters_of Try.func97 (by kernel_rfl) rfl
  · exact enters_of Try.func98 (by kernel_rfl) rfl
theorem ru_call (h : IsV W V vg vs vo) (hf : Fw V) (hp : ∀ g ∈ V.gs, WfI g.2.1) (ps : Int) : ∀ i, i < 8 → Calls Try.prog (ruF i) #[vv V vg vs vo, .int .i64 ps] W (YesR W (Brk V ps i)) := fun i hi => by
  have a1 := hf.gs
  have a2 := hf.os
  rcases (show i = 0 ∨ i = 1 ∨ i = 2 ∨ i = 3 ∨ i = 4 ∨ i = 5 ∨ i = 6 ∨ i = 7 by omega) with rfl | rfl | rfl | rfl | rfl | rfl | rfl | rfl
  · exact alost_any h hf ps
  · exact objects_any h (by omega) ps
  · exact twice_any h hp (by omega) ps
  · exact places_any h ps
  · exact work_any h ps
  · exact awhite_any h hf ps
  · exact numbers_any h ps
  · exact marked_any h ps
set_option maxRecDepth 100000 in
set_option maxHeartbeats 4000000 in
theorem all_any (h : IsV w V vg vs vo) (hf : Fw V) (hp : ∀ g ∈ V.gs, WfI g.2.1) (ps : Int) : Calls Try.prog 14 #[vv V vg vs vo, .int .i64 ps] w (NewRow w (brkN V ps 8)) := by
  obtain ⟨W1, hW1⟩ : ∃ W1, w.alloc (.cells #[.int .i64 V.ph, .int .i64 V.cy, .int .i64 V.ck, vg, vs, vo, .int .i64 V.gr, .int .i64 V.nt, .int .i64 V.rt] 32) = W1 := ⟨_, rfl⟩
  have hb1 := below_alloc (Below.refl _ w) (.cells #[.int .i64 V.ph, .int .i64 V.cy, .int .i64 V.ck, vg, vs, vo, .int .i64 V.gr, .int .i64 V.nt, .int .i64 V.rt] 32)
  have k1 := heap_alloc_new w (.cells #[.int .i64 V.ph, .int .i64 V.cy, .int .i64 V.ck, vg, vs, vo, .int .i64 V.gr, .int .i64 V.nt, .int .i64 V.rt] 32)
  rw [hW1] at hb1 k1
  have h1 := h.below hb1
  have hB1 := Lib.hid (box9_of (V := V) k1)
  have hcall : Hid (∀ W, Below W1.heap.size W1 W → ∀ i, i < 8 → Calls Try.prog (ruF i) #[vv V vg vs vo, .int .i64 ps] W (YesR W (Brk V ps i))) := Lib.hid fun W hW => ru_call (h1.below hW) hf hp ps
  have hent := Lib.hid ru_enter
  have cr := rules_any W1
  have hfin : Hid (∀ W, Below W1.heap.size W1 W → Below w.heap.size w W) := Lib.hid fun W hW => hb1.trans (hW.mono hb1.size)
  have hlo : Hid (w.heap.size ≤ W1.heap.size) := Lib.hid hb1.size
  unfold vv at hcall ⊢
  clear h h1 k1 hb1 hf hp
  go_enter Try.func14, Try.ntmps14
  go_upto_region 1 with fail
  try rw [hW1]
  clear hW1
  obtain ⟨q, hq⟩ : ∃ q, w.heap.size = q := ⟨_, rfl⟩
  rw [hq] at hB1
  try rw [hq]
  replace hq := Lib.hid hq
  go_wp2_with fail
  with_reducible refine Calls.mono cr ?_
  rintro e w2 ⟨rfl, hb2, hru⟩
  obtain ⟨R, hR⟩ : ∃ R, W1.heap.size = R := ⟨_, rfl⟩
  rw [hR] at hru
  rw [hR]
  have hb2 := Lib.hid hb2
  have hru := Lib.hid hru
  clear cr hR
  go_wp2_with fail
  go_loopw [5, 10] (fun u5 u10 wr => ∃ (i : Nat) (v' : Value), u10 = .int .i64 i ∧ u5 = v' ∧ i ≤ 8 ∧ Hid (GRow 1 wr v' (brkN V ps i).length (cells (brkN V ps i)) ∧ (∀ k, v'.ownBlock = some k → w2.heap.size ≤ k) ∧ Below w2.heap.size w2 wr)) (fun _ u _ => (8 - (RowKit.intOf u).toNat))
  case atStart => exact ⟨0, _, rfl, rfl, by omega, Lib.hid ⟨grow_nil 1 w2, (fun k hk => by cases hk), Below.refl _ _⟩⟩
  case round =>
    obtain ⟨i, v', rfl, rfl, hi, hst⟩ := hrel
    have i0 : (0 : Int) ≤ (i : Int) := by omega
    by_cases hlt : i < 8
    · have i2 : (i : Int) < 8 := by omega
      obtain ⟨r0, r1, r2⟩ := (hru.out.below hst.out.2.2) i hlt
      obtain ⟨X, hX⟩ : ∃ X, wr.alloc (.cells #[.int .i64 ((i : Int) + 1), .string (ruT i), .func (.func (ruF i)) #[] #[]] 74) = X := ⟨_, rfl⟩
      have kX := heap_alloc_new wr (.cells #[.int .i64 ((i : Int) + 1), .string (ruT i), .func (.func (ruF i)) #[] #[]] 74)
      have bX := below_alloc (Below.refl _ wr) (.cells #[.int .i64 ((i : Int) + 1), .string (ruT i), .func (.func (ruF i)) #[] #[]] 74)
      rw [hX] at kX bX
      obtain ⟨O, hO⟩ : ∃ O, wr.heap.size = O := ⟨_, rfl⟩
      rw [hO] at kX
      have k0 : X.cell? ⟨O, 0, none⟩ = some (.int .i64 ((i : Int) + 1)) := cell_of kX rfl
      have k1 : X.cell? ⟨O, 1, none⟩ = some (.string (ruT i)) := cell_of kX rfl
      have k2 : X.cell? ⟨O, 2, none⟩ = some (.func (.func (ruF i)) #[] #[]) := cell_of kX rfl
      have hbX : Hid (Below w2.heap.size w2 X) := Lib.hid (hst.out.2.2.trans (bX.mono hst.out.2.2.size))
      obtain ⟨g0, g1, g2, g3, g4, g5, g6, g7, g8⟩ := hB1.out.below (hb2.out.trans (hbX.out.mono hb2.out.size))
      have hc := hcall.out X (hb2.out.trans (hbX.out.mono hb2.out.size)) i hlt
      have hen := hent.out i hlt
      obtain ⟨F, hF⟩ : ∃ F, ruF i = F := ⟨_, rfl⟩
      obtain ⟨tx, htx⟩ : ∃ tx, ruT i = tx := ⟨_, rfl⟩
      rw [hF] at r2 hX k2 hc hen
      rw [htx] at r1 hX k1
      replace htx := Lib.hid htx
      obtain ⟨s2, c2, e2⟩ := hst.out.1.slice
      have hlen := brkN_len (V := V) (ps := ps) (n := i)
      obtain ⟨t1, ht1⟩ : ∃ t1, (brkN V ps i).length = t1 := ⟨_, rfl⟩
      have hst2 : Hid (GRow 1 X u5 t1 (cells (brkN V ps i)) ∧ (∀ k, u5.ownBlock = some k → w2.heap.size ≤ k)) := Lib.hid ⟨by rw [← ht1]; exact hst.out.1.below bX, hst.out.2.1⟩
      rw [ht1] at e2 hlen
      replace ht1 := Lib.hid ht1
      rw [e2] at hst2
      subst e2
      clear kX bX hst hF hru
      go_upto_region 5 with fail
      try rw [hX]
      clear hX
      try rw [hO]
      clear hO
      go_wp2_with fail
      refine Calls.mono hc ?_
      rintro e w5 ⟨b, rfl, hbi, hb5⟩
      have k0 := cell_then hb5 k0
      have hst5 : Hid (GRow 1 w5 (.slice s2 t1 c2) t1 (cells (brkN V ps i)) ∧ (∀ k, (Value.slice s2 t1 c2).ownBlock = some k → w2.heap.size ≤ k) ∧ Below w2.heap.size w2 w5) := Lib.hid ⟨hst2.out.1.below hb5, hst2.out.2, hbX.out.trans (hb5.mono hbX.out.size)⟩
      clear hc hen r0 r1 r2 k1 k2 g0 g1 g2 g3 g4 g5 g6 g7 g8 hb5 hst2 hbX
      cases b with
      | false =>
        have hnx : Hid (∃ v', v' = Value.slice s2 t1 c2 ∧ (GRow 1 w5 v' (brkN V ps (i + 1)).length (cells (brkN V ps (i + 1))) ∧ (∀ k, v'.ownBlock = some k → w2.heap.size ≤ k) ∧ Below w2.heap.size w2 w5)) := Lib.hid ⟨_, rfl, by rw [brkN_f (fun e => by have := hbi.2 e; cases this), ht1.out]; exact hst5.out⟩
        clear hst5 hbi
        go_wp2_with fail
        go_roundw
        case rel =>
          obtain ⟨v', e, h⟩ := hnx.out
          exact ⟨i + 1, _, by go_num, rfl, by omega, Lib.hid (by rw [e] at h; exact h)⟩
        case measure => simp [RowKit.intOf]; omega
      | true =>
        have hbd : t1 + 1 ≤ 1000000 := by omega
        have hrow : Hid (GRow 1 (w5.alloc (.cells #[.int .i64 ((i : Int) + 1)] 3)) (.slice s2 t1 c2) t1 (cells (brkN V ps i))) := Lib.hid (hst5.out.1.below (below_alloc (Below.refl w5.heap.size w5) _))
        have hsrc := Lib.hid (src_int ((i : Int) + 1) w5)
        have key : Hid (∀ u8 w8, GRow 1 w8 u8 (t1 + 1) (cells (brkN V ps i) ++ [.int .i64 ((i : Int) + 1)]) → Wrote (fun k => (Value.slice s2 t1 c2).ownBlock = some k) (w5.alloc (.cells #[.int .i64 ((i : Int) + 1)] 3)) (fun k => u8.ownBlock = some k) w8 → Hid (GRow 1 w8 u8 (brkN V ps (i + 1)).length (cells (brkN V ps (i + 1))) ∧ (∀ k, u8.ownBlock = some k → w2.heap.size ≤ k) ∧ Below w2.heap.size w2 w8)) := Lib.hid fun u8 w8 g1 g2 => Lib.hid (by
          obtain ⟨_, h2, h3⟩ := hst5.out
          have h4 := below_alloc h3 (.cells #[.int .i64 ((i : Int) + 1)] 3)
          rw [brkN_t (hbi.1 rfl), List.length_append, List.length_singleton, cells_app, ht1.out]
          exact ⟨g1, fun k hk => (g2.home k hk).elim (h2 k) (fun e => Nat.le_trans h4.size e), g2.below (W := w2) (fun k hk => h2 k hk) h4⟩)
        clear hst5 hbi
        go_wp2_with (at_builtin; refine wpList_append_g rfl (.tmp 19) (.tmp 22) rfl rfl eltI hrow.out rfl rfl hsrc.out hbd ?_; intro u8 w8 g1 g2; have hk := key.out u8 w8 g1 g2; obtain ⟨s8, c8, rfl⟩ := g1.slice; clear key g1 g2 hrow hsrc)
        go_roundw
        case rel => exact ⟨i + 1, _, by go_num, rfl, by omega, hk⟩
        case measure => simp [RowKit.intOf]; omega
    · obtain rfl : i = 8 := by omega
      have hlen := brkN_len (V := V) (ps := ps) (n := 8)
      have hf : Hid (Ints wr (fun k => q ≤ k) u5 (brkN V ps 8) ∧ Below q w wr) := Lib.hid ⟨(ints_grow hst.out.1 (by omega) hst.out.2.1).wider fun k hk _ => by have := hb2.out.size; have := hlo.out; have := hq.out; omega, by rw [← hq.out]; exact hfin.out _ (hb2.out.trans (hst.out.2.2.mono hb2.out.size))⟩
      clear hst
      go_wp2_with fail
      go_ret
      rw [← hq.out] at hf
      exact ⟨_, rfl, hf.out.1, hf.out.2⟩
set_option maxRecDepth 100000 in
set_option maxHeartbeats 4000000 in
theorem check_any (h : IsV w V vg vs vo) (hf : Fw V) (hp : ∀ g ∈ V.gs, WfI g.2.1) (ps : Int) : Calls Try.prog 13 #[vv V vg vs vo, .int .i64 ps] w (AnsB (.int .i64 ((brkN V ps 8).headD 0)) w) := by
  obtain ⟨W1, hW1⟩ : ∃ W1, w.alloc (.cells #[.int .i64 V.ph, .int .i64 V.cy, .int .i64 V.ck, vg, vs, vo, .int .i64 V.gr, .int .i64 V.nt, .int .i64 V.rt] 32) = W1 := ⟨_, rfl⟩
  have hb1 := below_alloc (Below.refl _ w) (.cells #[.int .i64 V.ph, .int .i64 V.cy, .int .i64 V.ck, vg, vs, vo, .int .i64 V.gr, .int .i64 V.nt, .int .i64 V.rt] 32)
  have k1 := heap_alloc_new w (.cells #[.int .i64 V.ph, .int .i64 V.cy, .int .i64 V.ck, vg, vs, vo, .int .i64 V.gr, .int .i64 V.nt, .int .i64 V.rt] 32)
  rw [hW1] at hb1 k1
  have h1 := h.below hb1
  have hB1 := Lib.hid (box9_of (V := V) k1)
  have hcall : Hid (∀ W, Below W1.heap.size W1 W → ∀ i, i < 8 → Calls Try.prog (ruF i) #[vv V vg vs vo, .int .i64 ps] W (YesR W (Brk V ps i))) := Lib.hid fun W hW => ru_call (h1.below hW) hf hp ps
  have hent := Lib.hid ru_enter
  have cr := rules_any W1
  have hfin : Hid (∀ W, Below W1.heap.size W1 W → Below w.heap.size w W) := Lib.hid fun W hW => hb1.trans (hW.mono hb1.size)
  have hlo : Hid (w.heap.size ≤ W1.heap.size) := Lib.hid hb1.size
  unfold vv at hcall ⊢
  clear h h1 k1 hb1 hf hp
  have hyes : Hid (∀ i, i < 8 → (∀ j, j < i → ¬ Brk V ps j) → Brk V ps i → (brkN V ps 8).headD 0 = (i : Int) + 1) := Lib.hid fun i => brk_first
  have hno : Hid ((∀ j, j < 8 → ¬ Brk V ps j) → (brkN V ps 8).headD 0 = 0) := Lib.hid fun h => by rw [brkN_none h]; rfl
  generalize (brkN V ps 8).headD 0 = ans at *
  go_enter Try.func13, Try.ntmps13
  go_upto_region 1 with fail
  try rw [hW1]
  clear hW1
  obtain ⟨q, hq⟩ : ∃ q, w.heap.size = q := ⟨_, rfl⟩
  rw [hq] at hB1
  try rw [hq]
  replace hq := Lib.hid hq
  go_wp2_with fail
  with_reducible refine Calls.mono cr ?_
  rintro e w2 ⟨rfl, hb2, hru⟩
  obtain ⟨R, hR⟩ : ∃ R, W1.heap.size = R := ⟨_, rfl⟩
  rw [hR] at hru
  rw [hR]
  have hb2 := Lib.hid hb2
  have hru := Lib.hid hru
  clear cr hR
  go_wp2_with fail
  go_loopw [4, 9] (fun u4 u9 wr => ∃ i : Nat, u9 = .int .i64 i ∧ i ≤ 8 ∧ Hid (∀ j, j < i → ¬ Brk V ps j) ∧ Hid (Below w2.heap.size w2 wr)) (fun _ u _ => (8 - (RowKit.intOf u).toNat))
  case atStart => exact ⟨0, rfl, by omega, Lib.hid fun j hj => absurd hj (by omega), Lib.hid (Below.refl _ _)⟩
  case round =>
    obtain ⟨i, rfl, hi, hall, hst⟩ := hrel
    have i0 : (0 : Int) ≤ (i : Int) := by omega
    by_cases hlt : i < 8
    · have i2 : (i : Int) < 8 := by omega
      obtain ⟨r0, r1, r2⟩ := (hru.out.below hst.out) i hlt
      obtain ⟨X, hX⟩ : ∃ X, wr.alloc (.cells #[.int .i64 ((i : Int) + 1), .string (ruT i), .func (.func (ruF i)) #[] #[]] 74) = X := ⟨_, rfl⟩
      have kX := heap_alloc_new wr (.cells #[.int .i64 ((i : Int) + 1), .string (ruT i), .func (.func (ruF i)) #[] #[]] 74)
      have bX := below_alloc (Below.refl _ wr) (.cells #[.int .i64 ((i : Int) + 1), .string (ruT i), .func (.func (ruF i)) #[] #[]] 74)
      rw [hX] at kX bX
      obtain ⟨O, hO⟩ : ∃ O, wr.heap.size = O := ⟨_, rfl⟩
      rw [hO] at kX
      have k0 : X.cell? ⟨O, 0, none⟩ = some (.int .i64 ((i : Int) + 1)) := cell_of kX rfl
      have k1 : X.cell? ⟨O, 1, none⟩ = some (.string (ruT i)) := cell_of kX rfl
      have k2 : X.cell? ⟨O, 2, none⟩ = some (.func (.func (ruF i)) #[] #[]) := cell_of kX rfl
      have hbX : Hid (Below w2.heap.size w2 X) := Lib.hid (hst.out.trans (bX.mono hst.out.size))
      obtain ⟨g0, g1, g2, g3, g4, g5, g6, g7, g8⟩ := hB1.out.below (hb2.out.trans (hbX.out.mono hb2.out.size))
      have hc := hcall.out X (hb2.out.trans (hbX.out.mono hb2.out.size)) i hlt
      have hen := hent.out i hlt
      obtain ⟨F, hF⟩ : ∃ F, ruF i = F := ⟨_, rfl⟩
      obtain ⟨tx, htx⟩ : ∃ tx, ruT i = tx := ⟨_, rfl⟩
      rw [hF] at r2 hX k2 hc hen
      rw [htx] at r1 hX k1
      replace htx := Lib.hid htx
      have hnx : Hid (¬ Brk V ps i → ∀ j, j < i + 1 → ¬ Brk V ps j) := Lib.hid fun h0 j hj => by
        by_cases e : j = i
        · rw [e]; exact h0
        · exact hall.out j (by omega)
      have hy := Lib.hid (hyes.out i hlt hall.out)
      clear kX bX hst hF hru hall
      go_upto_region 4 with fail
      try rw [hX]
      clear hX
      try rw [hO]
      clear hO
      go_wp2_with fail
      refine Calls.mono hc ?_
      rintro e w5 ⟨b, rfl, hbi, hb5⟩
      have k0 := cell_then hb5 k0
      have hb6 : Hid (Below w2.heap.size w2 w5) := Lib.hid (hbX.out.trans (hb5.mono hbX.out.size))
      clear hc hen r0 r1 r2 k1 k2 g0 g1 g2 g3 g4 g5 g6 g7 g8 hb5 hbX
      cases b with
      | false =>
        have hnx2 := Lib.hid (hnx.out fun e => by have := hbi.2 e; cases this)
        clear hnx hbi hy
        go_wp2_with fail
        go_roundw
        case rel => exact ⟨i + 1, by go_num, by omega, hnx2, hb6⟩
        case measure => simp [RowKit.intOf]; omega
      | true =>
        have hy2 := Lib.hid (hy.out (hbi.1 rfl))
        clear hnx hbi hy
        go_wp2_with fail
        go_ret
        exact ⟨congrArg (fun z => Ending.returned (.int .i64 z)) hy2.out.symm, hfin.out _ (hb2.out.trans (hb6.out.mono hb2.out.size))⟩
    · obtain rfl : i = 8 := by omega
      have hy2 := Lib.hid (hno.out hall.out)
      clear hall hno
      go_wp2_with fail
      go_ret
      exact ⟨congrArg (fun z => Ending.returned (.int .i64 z)) hy2.out.symm, hfin.out _ (hb2.out.trans (hst.out.mono hb2.out.size))⟩
/-- The word of a rule. -/
def txtR (c : Int) : ByteArray := if 1 ≤ c ∧ c ≤ 8 then ruT (c - 1).toNat else ⟨#[]⟩
set_option maxRecDepth 100000 in
set_option maxHeartbeats 4000000 in
theorem text_any (c : Int) (w : World) : Calls Try.prog 16 #[.int .i64 c] w (AnsB (.string (txtR c)) w) := by
  have cr := rules_any w
  have hyes : Hid (∀ i : Nat, i < 8 → (i : Int) + 1 = c → txtR c = ruT i) := Lib.hid fun i hi e => by unfold txtR; rw [if_pos (by omega), ← e]; congr 1; omega
  have hno : Hid ((∀ j : Nat, j < 8 → (j : Int) + 1 ≠ c) → txtR c = ⟨#[]⟩) := Lib.hid fun h => by
    unfold txtR
    rw [if_neg fun e => h (c - 1).toNat (by omega) (by omega)]
  generalize txtR c = ans at *
  go_enter Try.func16, Try.ntmps16
  go_wp2_with fail
  with_reducible refine Calls.mono cr ?_
  rintro e w2 ⟨rfl, hb2, hru⟩
  obtain ⟨R, hR⟩ : ∃ R, w.heap.size = R := ⟨_, rfl⟩
  rw [hR] at hru
  try rw [hR]
  replace hb2 := Lib.hid hb2
  replace hru := Lib.hid hru
  clear cr hR
  go_wp2_with fail
  go_loopw [2, 7] (fun u2 u7 wr => ∃ i : Nat, u7 = .int .i64 i ∧ i ≤ 8 ∧ Hid (∀ j : Nat, j < i → (j : Int) + 1 ≠ c) ∧ Hid (Below w2.heap.size w2 wr)) (fun _ u _ => (8 - (RowKit.intOf u).toNat))
  case atStart => exact ⟨0, rfl, by omega, Lib.hid fun j hj => absurd hj (by omega), Lib.hid (Below.refl _ _)⟩
  case round =>
    obtain ⟨i, rfl, hi, hall, hst⟩ := hrel
    have i0 : (0 : Int) ≤ (i : Int) := by omega
    by_cases hlt : i < 8
    · have i2 : (i : Int) < 8 := by omega
      obtain ⟨r0, r1, r2⟩ := (hru.out.below hst.out) i hlt
      have hb5 := Lib.hid (hst.out.trans ((below_alloc (Below.refl _ wr) (.cells #[.int .i64 ((i : Int) + 1), .string (ruT i), .func (.func (ruF i)) #[] #[]] 74)).mono hst.out.size))
      have hnx : Hid ((i : Int) + 1 ≠ c → ∀ j : Nat, j < i + 1 → (j : Int) + 1 ≠ c) := Lib.hid fun h0 j hj => by
        by_cases e : j = i
        · rw [e]; exact h0
        · exact hall.out j (by omega)
      have hy := Lib.hid (hyes.out i hlt)
      generalize ruT i = tx at *
      generalize ruF i = F at *
      clear hall hst hru
      by_cases hc : (i : Int) + 1 = c
      · have hcb : (((i : Int) + 1) == c) = true := by rw [hc]; exact beq_self_eq_true c
        rw [hc] at hb5
        have hy2 := Lib.hid (hy.out hc)
        clear hnx hy
        go_wp2_with fail
        go_ret
        exact ⟨congrArg (fun z => Ending.returned (.string z)) hy2.out.symm, hb2.out.trans (hb5.out.mono hb2.out.size)⟩
      · have hcb : (((i : Int) + 1) == c) = false := beq_eq_false_iff_ne.2 hc
        have hnx2 := Lib.hid (hnx.out hc)
        clear hnx hy
        go_wp2_with fail
        go_roundw
        case rel => exact ⟨i + 1, by go_num, by omega, hnx2, hb5⟩
        case measure => simp [RowKit.intOf]; omega
    · obtain rfl : i = 8 := by omega
      have hy2 := Lib.hid (hno.out hall.out)
      clear hall hno
      go_wp2_with fail
      go_ret
      exact ⟨congrArg (fun z => Ending.returned (.string z)) hy2.out.symm, hb2.out.trans (hst.out.mono hb2.out.size)⟩
end Vw
end Go.Proofs.Ytneibhcigbfigaa
