/- View: the way to an address (walk.back, view.Path). -/
import Derived.Test.YtneibhcigbfigaaVwEx
namespace Go.Proofs.Ytneibhcigbfigaa
open Go.RowKit Go.Lib Fx Ho Gr Go.Sort
set_option linter.unusedVariables false
namespace Vw
variable {B w w' W : World} {p b1 b2 n1 n2 i k s lo : Nat} {v vg vs vo ov lv : Value} {R T O lost pre rs zs D : List Int} {m1 m2 : Int → Option Int} {a c x y : Int} {os : List Ob} {L : List Ent} {V : Vi}
/-- The way along which each was come to. -/
inductive Way (L : List Ent) : Int → List Int → Prop
  | root {a : Int} : (a, 0) ∈ L → Way L a [a]
  | step {a : Int} {s : Nat} {p : List Int} : (a, s + 1) ∈ L → Way L (L.getD s (0, 0)).1 p → Way L a (p ++ [a])
theorem Bf.one (h : Bf R os L lost i pre) {s t : Nat} (h1 : (a, s) ∈ L) (h2 : (a, t) ∈ L) : s = t := by
  obtain ⟨_, _, e1, f1⟩ := h.old _ h1
  obtain ⟨_, _, e2, f2⟩ := h.old _ h2
  rcases Nat.lt_trichotomy s t with e | e | e
  · exact absurd e1 (f2 s e)
  · exact e
  · exact absurd e2 (f1 t e)
theorem Bf.par (h : Bf R os L lost i pre) (h1 : (a, s) ∈ L) : parO L a = some (ahd L s) := by
  unfold parO
  cases e : L.find? (fun e => decide (e.1 = a)) with
  | none => exact absurd (decide_eq_true rfl) (List.find?_eq_none.1 e _ h1)
  | some u =>
    have hu := List.mem_of_find?_eq_some e
    have hd := List.find?_some e
    obtain ⟨ua, us⟩ := u
    have : ua = a := of_decide_eq_true hd
    subst this
    rw [h.one hu h1]; rfl
/-- Each that was reached has a way. -/
theorem Bf.way (h : Bf R os L lost i pre) : ∀ k (hk : k < L.length), ∃ q, Way L L[k].1 q := by
  intro k
  induction k using Nat.strongRecOn with
  | ind k ih =>
    intro hk
    have hp := h.pos k hk
    cases hs : L[k].2 with
    | zero => exact ⟨_, .root (by rw [← hs]; exact List.getElem_mem hk)⟩
    | succ s =>
      rw [hs] at hp
      obtain ⟨q, hq⟩ := ih s (by omega) (by omega)
      exact ⟨q ++ [L[k].1], .step (s := s) (by rw [← hs]; exact List.getElem_mem hk) (by rw [getD_L (by omega)]; exact hq)⟩
/-- What a way is, or nothing. -/
def Res (L : List Ent) (a : Int) (T : List Int) : Prop := (a ∈ ord L ∧ Way L a T) ∨ (a ∉ ord L ∧ T = [])
theorem Bf.res (h : Bf R os L lost i pre) (a : Int) : ∃ T, Res L a T := by
  by_cases ha : a ∈ ord L
  · obtain ⟨s, hs⟩ := mem_ord.1 ha
    obtain ⟨k, hk, e⟩ := List.getElem_of_mem hs
    obtain ⟨q, hq⟩ := h.way k hk
    rw [e] at hq
    exact ⟨q, .inl ⟨ha, hq⟩⟩
  · exact ⟨[], .inr ⟨ha, rfl⟩⟩
/-- One step back. -/
theorem Bf.back (h : Bf R os L lost i pre) (hk : k < L.length) (hr : Res L L[k].1 T) : ∃ s q, L[k].2 = s ∧ parO L L[k].1 = some (ahd L s) ∧ T = q ++ [L[k].1] ∧ Res L (ahd L s) q ∧ (ahd L s = 0 ∧ 0 ∉ ord L ∨ ∃ j, ∃ hj : j < L.length, j < k ∧ L[j].1 = ahd L s) := by
  have hmem := List.getElem_mem hk
  have h0 : (0 : Int) ∉ ord L := fun e => by
    obtain ⟨s, hs⟩ := mem_ord.1 e
    exact (h.old _ hs).1 rfl
  have hp := h.pos k hk
  refine ⟨L[k].2, ?_⟩
  rcases hr with ⟨_, hw⟩ | ⟨hn, _⟩
  · generalize hL : L[k] = e at *
    obtain ⟨ea, es⟩ := e
    cases hw with
    | root h1 =>
      obtain rfl : es = 0 := h.one hmem h1
      exact ⟨[], rfl, h.par hmem, rfl, .inr ⟨h0, rfl⟩, .inl ⟨rfl, h0⟩⟩
    | step h1 h2 =>
      rename_i s q
      obtain rfl : es = s + 1 := h.one hmem h1
      have hsl : s < L.length := by have hp : s + 1 ≤ k := hp; omega
      refine ⟨q, rfl, h.par hmem, rfl, .inl ⟨?_, h2⟩, .inr ⟨s, hsl, by have hp : s + 1 ≤ k := hp; omega, by rw [← getD_L hsl]; rfl⟩⟩
      show (L.getD s (0, 0)).1 ∈ ord L
      rw [getD_L hsl]
      exact List.mem_map.2 ⟨_, List.getElem_mem hsl, rfl⟩
  · exact absurd (List.mem_map.2 ⟨_, hmem, rfl⟩) hn
theorem reverse_any (h : Rw0 lo w v zs) : Calls Try.prog 111 #[v] w fun e w' => e = .returned (.tuple #[]) ∧ Rw0 lo w' v zs.reverse ∧ Wrote (fun k => v.ownBlock = some k) w (fun k => v.ownBlock = some k) w' := by
  rcases h with ⟨b, off, cap, rfl, h1, h2, h3, h4, h5⟩ | ⟨rfl, a, cap, rfl, h1⟩
  · refine (Try.slices_Reverse_int b off cap zs w h5 (by omega)).mono fun e w' ⟨he, m, hw⟩ => ?_
    obtain ⟨g1, g2⟩ := wrote_row0 (m := m) (d' := zs.reverse.toArray) h5 (by simp) h2
    rw [← hw] at g1 g2
    exact ⟨he, .inl ⟨b, off, cap, by rw [List.length_reverse], h1, Nat.lt_of_lt_of_le h2 g2.size, by rw [List.length_reverse]; omega, by rw [List.length_reverse]; omega, g1⟩, ⟨g2.os, g2.tape, g2.output, g2.size, fun k hk hn => g2.block k hk (fun e => hn (by rw [e]; rfl)), fun k hk => .inl hk⟩⟩
  · exact (Try.slices_Reverse_int_empty a cap w).mono fun e w' ⟨he, hw⟩ => by
      subst hw
      exact ⟨he, .inr ⟨rfl, a, cap, rfl, h1⟩, Wrote.refl _ _⟩
def BackR (w : World) (T : List Int) (e : Ending) (w' : World) : Prop := ∃ v', e = .returned v' ∧ Ints w' (fun k => w.heap.size ≤ k) v' T ∧ Below w.heap.size w w'
set_option maxRecDepth 100000 in
set_option maxHeartbeats 4000000 in
theorem back_any (h : Wk B w p b1 b2 vo ov lv n1 n2 m1 (parO L) O lost) (hB : Bf R os L lost i pre) (hwf : ∀ x ∈ ord L, WfI x) (ha : WfI a) (hT : Res L a T) (hl : L.length ≤ 40) : Calls Try.prog 81 #[.pointer (some ⟨p, 0, none⟩), .int .i64 a] w (BackR w T) := by
  have hlk : Hid (∀ W c, Below w.heap.size w W → WfI c → W.cell? ⟨p, 2, none⟩ = some (.map (some b2)) ∧ (Instr.lookup 78 (.map (some b2)) (.int .i64 c) true).run Try.prog W = .ok (.tuple #[.int .i64 ((parO L c).getD 0), .bool (parO L c).isSome]) W) := Lib.hid fun W c hb hc => ⟨cell_of (h.below hb).head rfl, (h.below hb).look2 hc⟩
  obtain ⟨d2, l0⟩ := hlk.out w a (Below.refl _ _) ha
  have hBh := Lib.hid hB
  have hnone : Hid (∀ c, c ∉ ord L → parO L c = none) := Lib.hid fun c hc => parO_none.2 hc
  have hstart : Hid (∃ rest, Res L a rest ∧ T = rest ++ ([] : List Int).reverse ∧ (a ∉ ord L ∨ ∃ k, ∃ hk : k < L.length, L[k].1 = a ∧ k + 1 ≤ L.length)) := Lib.hid ⟨T, hT, by simp, by
    by_cases e : a ∈ ord L
    · obtain ⟨s, hs⟩ := mem_ord.1 e
      obtain ⟨k, hk, e2⟩ := List.getElem_of_mem hs
      exact .inr ⟨k, hk, by rw [e2], hk⟩
    · exact .inl e⟩
  have hwf2 : Hid (∀ x ∈ ord L, WfI x) := Lib.hid hwf
  have hgr : Hid (GRow 1 w (.slice none 0 0) ([] : List Int).length (cells []) ∧ Below w.heap.size w w) := Lib.hid ⟨grow_nil 1 w, Below.refl _ _⟩
  have hah := Lib.hid ha
  clear h hB hwf hT
  go_enter Try.func81, Try.ntmps81
  go_wp2_with fail
  go_loopg [1, 5, 6, 7] (L.length + 1) (fun g u1 u5 u6 u7 wr => ∃ (c : Int) (D : List Int) (rv : Value), u1 = .int .i64 c ∧ u5 = rv ∧ u6 = .int .i64 ((parO L c).getD 0) ∧ u7 = .bool (parO L c).isSome ∧ Hid (WfI c) ∧ Hid (∃ rest, Res L c rest ∧ T = rest ++ D.reverse ∧ (c ∉ ord L ∨ ∃ k, ∃ hk : k < L.length, L[k].1 = c ∧ k + 1 ≤ g)) ∧ Hid (GRow 1 wr rv D.length (cells D) ∧ (∀ k, rv.ownBlock = some k → w.heap.size ≤ k) ∧ Below w.heap.size w wr ∧ D.length + g ≤ 100))
  case atStart =>
    obtain ⟨rest, r1, r2, r3⟩ := hstart.out
    exact ⟨a, [], .slice none 0 0, rfl, rfl, rfl, rfl, hah, Lib.hid ⟨rest, r1, r2, r3.imp id (fun ⟨k, hk, e, h⟩ => ⟨k, hk, e, by omega⟩)⟩, Lib.hid ⟨grow_nil 1 w, (fun k hk => by cases hk), Below.refl _ _, by show 0 + (L.length + 1) ≤ 100; omega⟩⟩
  case round =>
    obtain ⟨c, D, rv, rfl, rfl, rfl, rfl, hwc, hre, hro⟩ := hrel
    obtain ⟨rest, r1, r2, r3⟩ := hre.out
    obtain ⟨g1, g2, g3, g4⟩ := hro.out
    clear hstart hgr hah l0 d2
    by_cases hc : c ∈ ord L
    · obtain ⟨k, hk, hkc, hkg⟩ := r3.resolve_left (fun e => e hc)
      rw [← hkc] at r1
      obtain ⟨sx, q, e1, e2, e3, e4, e5⟩ := hBh.out.back hk r1
      rw [hkc] at e2 e3
      obtain ⟨A, hA⟩ : ∃ A, ahd L sx = A := ⟨_, rfl⟩
      rw [hA] at e2 e4 e5
      have hwA : WfI A := by
        rcases e5 with ⟨e5, _⟩ | ⟨j, hj, _, e5⟩
        · rw [e5]; rfl
        · rw [← e5]; exact hwf2.out _ (List.mem_map.2 ⟨_, List.getElem_mem hj, rfl⟩)
      obtain ⟨s2, c2, eo⟩ := g1.slice
      have hbd : D.length + 1 ≤ 1000000 := by omega
      have hba := below_alloc (Below.refl wr.heap.size wr) (.cells #[.int .i64 c] 3)
      have hrow : Hid (GRow 1 (wr.alloc (.cells #[.int .i64 c] 3)) (.slice s2 D.length c2) D.length (cells D)) := Lib.hid (by have := g1.below hba; rw [eo] at this; exact this)
      have hsrc := Lib.hid (src_int c wr)
      have key : Hid (∀ u8 w8, GRow 1 w8 u8 (D.length + 1) (cells D ++ [.int .i64 c]) → Wrote (fun k => (Value.slice s2 D.length c2).ownBlock = some k) (wr.alloc (.cells #[.int .i64 c] 3)) (fun k => u8.ownBlock = some k) w8 → (∃ s c, u8 = .slice s (D.length + 1) c) ∧ w8.cell? ⟨p, 2, none⟩ = some (.map (some b2)) ∧ (Instr.lookup 78 (.map (some b2)) (.int .i64 A) true).run Try.prog w8 = .ok (.tuple #[.int .i64 ((parO L A).getD 0), .bool (parO L A).isSome]) w8 ∧ Hid (∃ rest, Res L A rest ∧ T = rest ++ (D ++ [c]).reverse ∧ (A ∉ ord L ∨ ∃ k2, ∃ hk : k2 < L.length, L[k2].1 = A ∧ k2 + 1 ≤ k)) ∧ Hid (GRow 1 w8 u8 (D ++ [c]).length (cells (D ++ [c])) ∧ (∀ k, u8.ownBlock = some k → w.heap.size ≤ k) ∧ Below w.heap.size w w8 ∧ (D ++ [c]).length + k ≤ 100)) := Lib.hid fun u8 w8 f1 f2 => by
        have hb8 : Below w.heap.size w w8 := f2.below (W := w) (fun k hk => by rw [← eo] at hk; exact g2 k hk) (g3.trans (hba.mono g3.size))
        obtain ⟨f3, f4⟩ := hlk.out w8 A hb8 hwA
        refine ⟨f1.slice, f3, f4, Lib.hid ⟨q, e4, ?_, ?_⟩, Lib.hid ⟨by rw [List.length_append, List.length_singleton, cells_app]; exact f1, fun k hk => (f2.home k hk).elim (fun e => g2 k (by rw [eo]; exact e)) (fun e => by have := g3.size; have := hba.size; omega), hb8, by rw [List.length_append, List.length_singleton]; omega⟩⟩
        · rw [r2, e3, List.reverse_append, List.append_assoc]; rfl
        · rcases e5 with ⟨e5, e6⟩ | ⟨j, hj, hjk, e5⟩
          · exact .inl (by rw [e5]; exact e6)
          · exact .inr ⟨j, hj, e5, by omega⟩
      have hkg2 : k < gk := by omega
      have hwA2 := Lib.hid hwA
      rw [e2, eo]
      clear hre hro r1 r2 r3 g1 g2 g3 g4 hkc hkg e1 e2 e3 e4 e5 hA eo hc hba hwA
      obtain ⟨t1, ht1⟩ : ∃ t, D.length = t := ⟨_, rfl⟩
      rw [ht1] at hbd hrow key ⊢
      clear ht1
      go_wp2_with (at_builtin; refine wpList_append_g rfl (.tmp 27) (.tmp 29) rfl rfl eltI hrow.out rfl rfl hsrc.out hbd ?_; intro u8 w8 g1 g2; have hk9 := key.out u8 w8 g1 g2; obtain ⟨⟨s8, c8, rfl⟩, hc8, hl8, hn1, hn2⟩ := hk9; clear key g1 g2 hrow hsrc)
      go_roundg k
      case measure => exact hkg2
      case rel => exact ⟨A, D ++ [c], _, rfl, rfl, rfl, rfl, hwA2, hn1, hn2⟩
    · have hno := hnone.out c hc
      have hr0 : rest = [] := by
        rcases r1 with ⟨e, _⟩ | ⟨_, e⟩
        · exact absurd e hc
        · exact e
      have hT : T = D.reverse := by rw [r2, hr0]; rfl
      have hrw := rw0_grow (lo := w.heap.size) g1 (by omega) g2
      have cr := reverse_any hrw
      obtain ⟨s2, c2, eo⟩ := g1.slice
      rw [eo] at cr
      have key : Hid (∀ w6, Rw0 w.heap.size w6 (.slice s2 D.length c2) D.reverse → Wrote (fun k => (Value.slice s2 D.length c2).ownBlock = some k) wr (fun k => (Value.slice s2 D.length c2).ownBlock = some k) w6 → BackR w T (.returned (.slice s2 D.length c2)) w6) := Lib.hid fun w6 h1 h2 => by
        rw [hT]
        exact ⟨_, rfl, h1.ints, below_wrote h2 g3 (fun k hk => by rw [← eo] at hk; exact g2 k hk)⟩
      rw [hno, eo]
      clear hre hro r1 r2 r3 g1 g2 g3 g4 hc hno hr0 hT hrw eo
      generalize D.length = t1 at *
      go_wp2_with fail
      with_reducible refine Calls.mono cr ?_
      rintro e w6 ⟨rfl, h1, h2⟩
      have hf := Lib.hid (key.out w6 h1 h2)
      clear cr key h1 h2
      go_wp2_with fail
      go_ret
      exact hf.out
/-- What Path answers: the way that the search left. -/
def PathV (w : World) (V : Vi) (x : Int) (e : Ending) (w' : World) : Prop := ∃ v T L lost i pre, e = .returned v ∧ Fin V x L lost i pre ∧ Res L x T ∧ Ints w' (fun k => w.heap.size ≤ k) v T ∧ Below w.heap.size w w'
theorem Fin.bf {L : List Ent} (h : Fin V x L lost i pre) : Bf (rootsL V.gl V.gs) V.os L lost i pre := h.elim (fun h => h.1) (fun h => h.1)
set_option maxRecDepth 100000 in
set_option maxHeartbeats 4000000 in
theorem path_any (h : IsV w V vg vs vo) (hf : Fw V) {x : Int} (hx : WfI x) : Calls Try.prog 39 #[vv V vg vs vo, .int .i64 x] w (PathV w V x) := by
  obtain ⟨W1, hW1⟩ : ∃ W1, w.alloc (.cells #[.int .i64 V.ph, .int .i64 V.cy, .int .i64 V.ck, vg, vs, vo, .int .i64 V.gr, .int .i64 V.nt, .int .i64 V.rt] 32) = W1 := ⟨_, rfl⟩
  have hb1 := below_alloc (Below.refl _ w) (.cells #[.int .i64 V.ph, .int .i64 V.cy, .int .i64 V.ck, vg, vs, vo, .int .i64 V.gr, .int .i64 V.nt, .int .i64 V.rt] 32)
  have k1 := heap_alloc_new w (.cells #[.int .i64 V.ph, .int .i64 V.cy, .int .i64 V.ck, vg, vs, vo, .int .i64 V.gr, .int .i64 V.nt, .int .i64 V.rt] 32)
  rw [hW1] at hb1 k1
  have c1 := explore_any (h.below hb1) hf x
  have g0 : W1.cell? ⟨w.heap.size, 0, none⟩ = some (.int .i64 V.ph) := cell_of k1 rfl
  have g1 : W1.cell? ⟨w.heap.size, 1, none⟩ = some (.int .i64 V.cy) := cell_of k1 rfl
  have g2 : W1.cell? ⟨w.heap.size, 2, none⟩ = some (.int .i64 V.ck) := cell_of k1 rfl
  have g3 : W1.cell? ⟨w.heap.size, 3, none⟩ = some vg := cell_of k1 rfl
  have g4 : W1.cell? ⟨w.heap.size, 4, none⟩ = some vs := cell_of k1 rfl
  have g5 : W1.cell? ⟨w.heap.size, 5, none⟩ = some vo := cell_of k1 rfl
  have g6 : W1.cell? ⟨w.heap.size, 6, none⟩ = some (.int .i64 V.gr) := cell_of k1 rfl
  have g7 : W1.cell? ⟨w.heap.size, 7, none⟩ = some (.int .i64 V.nt) := cell_of k1 rfl
  have g8 : W1.cell? ⟨w.heap.size, 8, none⟩ = some (.int .i64 V.rt) := cell_of k1 rfl
  have hoa : Hid (∀ o ∈ V.os, WfI o.1) := Lib.hid h.wf.oa
  replace hb1 := Lib.hid hb1
  unfold vv at c1 ⊢
  unfold ExR at c1
  clear h hf k1
  go_enter Try.func39, Try.ntmps39
  go_upto_region 1 with fail
  try rw [hW1]
  clear hW1
  go_wp2_with fail
  with_reducible refine Calls.mono c1 ?_
  rintro e w2 ⟨p, b1, b2, ov, lv, n1, n2, L, lost, i, pre, rfl, hwk, hfin, hL, hlo⟩
  clear c1 g0 g1 g2 g3 g4 g5 g6 g7 g8
  obtain ⟨T, hT⟩ := hfin.bf.res x
  have cb := back_any hwk hfin.bf (fun y hy => by
    obtain ⟨s, hs⟩ := mem_ord.1 hy
    obtain ⟨_, e2, _⟩ := hfin.bf.old _ hs
    obtain ⟨o, ho, e⟩ := List.mem_map.1 e2
    have := hoa.out o ho
    rw [e] at this
    exact this) hx hT hL
  have hb2 := Lib.hid (hb1.out.trans (hwk.bel.mono hb1.out.size))
  have key : Hid (∀ v w4, Ints w4 (fun k => w2.heap.size ≤ k) v T → Below w2.heap.size w2 w4 → PathV w V x (.returned v) w4) := Lib.hid fun v w4 hi hb => ⟨v, T, L, lost, i, pre, rfl, hfin, hT, hi.wider (fun k hk _ => Nat.le_trans hb2.out.size hk), hb2.out.trans (hb.mono hb2.out.size)⟩
  unfold BackR at cb
  clear hwk hfin hL hlo hT
  go_wp2_with fail
  with_reducible refine Calls.mono cb ?_
  rintro e w4 ⟨v, rfl, q1, q2⟩
  have hf4 := Lib.hid (key.out v w4 q1 q2)
  clear cb key q1 q2
  go_wp2_with fail
  go_ret
  exact hf4.out
end Vw
end Go.Proofs.Ytneibhcigbfigaa
