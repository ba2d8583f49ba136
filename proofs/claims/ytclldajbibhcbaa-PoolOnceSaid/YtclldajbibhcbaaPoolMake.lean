/- A new pool of some Ps. -/
import Derived.Test.YtclldajbibhcbaaPoolNew
namespace Go.Proofs.Ytclldajbibhcbaa
open Go.RowKit Go.Lib Fx Ho Qu Bu Gr
set_option linter.unusedVariables false
namespace Po
variable {w w' W V U W0 : World} {p B ps j n i : Nat} {ad : Nat → Nat → Nat} {G M H H' K M' : Home} {a : Nat → Value}
/-- Whatever is new. -/
def newK (w : World) : Home := fun k => w.heap.size ≤ k
/-- A pool in the making: j of its Ps have their buffers. -/
structure Nb (w W : World) (p B ps j : Nat) (a : Nat → Value) (ad : Nat → Nat → Nat) (M G : Home) : Prop where
  m : Mem W p B ps a (.slice none 0 0) (.slice none 0 0) 0 0 [] [] M
  b : Bufs W j 0 0 ad (fun _ _ => []) G
  one : ∀ i, i < j → a (i * 3) = ptr (ad 0 i)
  two : ∀ i, i < j → a (i * 3 + 1) = ptr (ad 1 i)
  flg : ∀ i, i < j → a (i * 3 + 2) = .bool false
  off : Off M G
  km : ∀ k, M k → w.heap.size ≤ k
  kg : ∀ k, G k → w.heap.size ≤ k
  bel : Below w.heap.size w W
theorem Nb.done (h : Nb w W p B ps ps a ad M G) : Is (newK w) W p B ps st0 :=
  ⟨a, _, _, ad, M, G, h.m, ⟨fun k i hs => by
    have e : cont st0.o st0.t st0.F k i = [] := by unfold cont st0; dsimp only; split <;> (try rfl); split <;> (try rfl); split <;> simp
    rw [e]; exact h.b.buf k i hs, h.b.inj, h.b.hb, h.b.lt⟩, h.one, h.two, h.flg, h.off, h.km, h.kg, fun k hk => Nat.le_trans h.bel.size hk⟩
theorem Nb.more {x y : Nat} (h : Nb w W p B ps j a ad M G) (hj : j < ps) (hb : Below W.heap.size W V) (hx : W.heap.size ≤ x) (hy : W.heap.size ≤ y) (hxy : x ≠ y) (ix : IsBuf V x []) (iy : IsBuf V y [])
    (hh : U.heap = (((V.setCell ⟨B, j * 3, none⟩ (ptr x)).setCell ⟨B, j * 3 + 1, none⟩ (ptr y)).setCell ⟨B, j * 3 + 2, none⟩ (.bool false)).heap) (ho : U.os = V.os) (ht : U.tape = V.tape) (hu : U.output = V.output) : ∃ a2 ad2 G2, Nb w U p B ps (j + 1) a2 ad2 M G2 := by
  have mV := h.m.below hb
  obtain ⟨k1, m1⟩ := mV.seta (j := j * 3) (by omega) (ptr x)
  obtain ⟨k2, m2⟩ := m1.seta (j := j * 3 + 1) (by omega) (ptr y)
  obtain ⟨k3, m3⟩ := m2.seta (j := j * 3 + 2) (by omega) (.bool false)
  have hbU := below_heap hh ho ht hu
  have m4 := m3.below hbU
  have kk := (k1.trans (k2.trans k3)).trans (Wrote.of_below hbU)
  have hMlt := h.m.lt
  have hoff : Off G M := fun k g1 g2 => h.off k g2 g1
  have bV := h.b.wrote (H := fun _ => False) (Wrote.of_below hb) (fun _ _ h => h)
  have b4 := bV.wrote kk hoff
  have ixU : IsBuf U x [] := ix.wrote kk (fun hm => by have := hMlt x hm; omega)
  have iyU : IsBuf U y [] := iy.wrote kk (fun hm => by have := hMlt y hm; omega)
  have hold : ∀ k l, Slot (j + 1) 0 0 k l → l ≠ j → Slot j 0 0 k l := fun k l h1 h2 => by unfold Slot at *; omega
  have hk2 : ∀ k l, Slot (j + 1) 0 0 k l → k = 0 ∨ k = 1 := fun k l h1 => by unfold Slot at h1; omega
  have hG : ∀ k l, Slot j 0 0 k l → ad k l < W.heap.size := fun k l hs => h.b.lt _ (h.b.hb k l hs)
  refine ⟨_, fun k l => if l = j then (if k = 0 then x else y) else ad k l, fun b => G b ∨ b = x ∨ b = y, ⟨m4, ⟨fun k l hs => ?_, fun k l k' l' h1 h2 e => ?_, fun k l hs => ?_, fun b hb' => ?_⟩, fun l hl => ?_, fun l hl => ?_, fun l hl => ?_, fun k g1 g2 => ?_, h.km, fun k hk => ?_, ?_⟩⟩
  · try dsimp only
    by_cases e : l = j
    · rw [if_pos e]
      split
      · exact ixU
      · exact iyU
    · rw [if_neg e]; exact b4.buf k l (hold k l hs e)
  · try dsimp only at e
    have q1 := hk2 k l h1
    have q2 := hk2 k' l' h2
    by_cases e1 : l = j <;> by_cases e2 : l' = j
    · rw [if_pos e1, if_pos e2] at e
      rcases q1 with rfl | rfl <;> rcases q2 with rfl | rfl
      · exact ⟨rfl, by omega⟩
      · simp at e; exact absurd e hxy
      · simp at e; exact absurd e.symm hxy
      · exact ⟨rfl, by omega⟩
    · rw [if_pos e1, if_neg e2] at e
      have := hG k' l' (hold k' l' h2 e2)
      split at e <;> omega
    · rw [if_neg e1, if_pos e2] at e
      have := hG k l (hold k l h1 e1)
      split at e <;> omega
    · rw [if_neg e1, if_neg e2] at e
      exact h.b.inj k l k' l' (hold k l h1 e1) (hold k' l' h2 e2) e
  · try dsimp only
    by_cases e : l = j
    · rw [if_pos e]
      split
      · exact Or.inr (Or.inl rfl)
      · exact Or.inr (Or.inr rfl)
    · rw [if_neg e]; exact Or.inl (h.b.hb k l (hold k l hs e))
  · rcases hb' with hb' | rfl | rfl
    · exact b4.lt b hb'
    · exact ixU.lt
    · exact iyU.lt
  · by_cases e : l = j
    · subst e
      rw [up_ne _ _ (by omega), up_ne _ _ (by omega), up_same, if_pos rfl, if_pos rfl]
    · rw [up_ne _ _ (by omega), up_ne _ _ (by omega), up_ne _ _ (by omega), if_neg e]; exact h.one l (by omega)
  · by_cases e : l = j
    · subst e
      rw [up_ne _ _ (by omega), up_same, if_pos rfl, if_neg (by omega)]
    · rw [up_ne _ _ (by omega), up_ne _ _ (by omega), up_ne _ _ (by omega), if_neg e]; exact h.two l (by omega)
  · by_cases e : l = j
    · subst e
      rw [up_same]
    · rw [up_ne _ _ (by omega), up_ne _ _ (by omega), up_ne _ _ (by omega)]; exact h.flg l (by omega)
  · rcases g2 with g2 | rfl | rfl
    · exact h.off k g1 g2
    · have := hMlt k g1; omega
    · have := hMlt k g1; omega
  · have := h.bel.size
    rcases hk with hk | rfl | rfl
    · exact h.kg k hk
    · omega
    · omega
  · have hbV := h.bel.trans (hb.mono h.bel.size)
    exact kk.below (fun k hk => h.km k hk) hbV
theorem infoL : (Try.prog.info? 146).map (fun i => (i.zero, i.size, i.bytes)) = some (some (.agg #[.pointer none, .pointer none, .bool false]), 3, 24) := by kernel_rfl
set_option maxRecDepth 100000 in
set_option maxHeartbeats 2000000 in
theorem new_any (hps : 1 ≤ ps) (hps2 : ps ≤ 64) (w : World) : Calls Try.prog 55 #[.int .i64 ps] w fun e W => ∃ p B, e = .returned (.tuple #[.pointer (some ⟨p, 0, none⟩), .int .i64 0]) ∧ Is (newK w) W p B ps st0 ∧ Below w.heap.size w W := by
  obtain ⟨i0, hi, hz0, hz1, hz2⟩ := info_parts infoL
  have h1 : (1 : Int) ≤ (ps : Int) := by omega
  have h2 : (ps : Int) ≤ 64 := by omega
  have hmk : Hid (∀ w1, w1.ownsRow w.heap.size 146 3 (.slice (some ⟨w.heap.size, 0, none⟩) ps ps) ps (madeCells (Value.agg #[.pointer none, .pointer none, .bool false]).cells (ps * 3)).toList → w.grownBy w1 none → Hid (∃ a ad M G, Nb w (w1.alloc (.cells #[.slice (some ⟨w.heap.size, 0, none⟩) ps ps, .slice none 0 0, .slice none 0 0] 144)) w1.heap.size w.heap.size ps 0 a ad M G)) := Lib.hid fun w1 ho hg => Lib.hid (by
    have hb1 : Below w.heap.size w w1 := Below.grown (Below.refl _ _) hg (Nat.le_refl _) (fun k hk => by cases hk)
    have hl := ho.lt w.heap.size rfl
    rcases ho.2 with ⟨e, _⟩ | ⟨g, cap, cur, e, g1, g2, g3, g4, g5, _⟩
    · cases e
    · cases e
      have hb2 := below_alloc (Below.refl _ w1) (.cells #[.slice (some ⟨w.heap.size, 0, none⟩) ps ps, .slice none 0 0, .slice none 0 0] 144)
      have hs : (w1.alloc (.cells #[.slice (some ⟨w.heap.size, 0, none⟩) ps ps, .slice none 0 0, .slice none 0 0] 144)).heap.size = w1.heap.size + 1 := by show (w1.heap.push _).size = _; rw [Array.size_push]
      refine ⟨fun j => cur.getD j undef, fun _ _ => 0, fun k => k = w.heap.size ∨ k = w1.heap.size, fun _ => False, ⟨heap_alloc_new _ _, ⟨cur, by rw [hb2.block _ hl.2]; exact g2, fun j hj => by
        have hj2 : j < cur.size := by rw [g5]; omega
        simp [hj2]⟩, grow_nil _ _, grow_nil _ _, Or.inr rfl, Or.inl rfl, (fun b e => by cases e), (fun b e => by cases e), fun b hb => ?_, ?_, (by intro e; cases e), (by intro e; cases e), (by intro e; cases e), (by intro e; cases e), (fun b e => by cases e)⟩, ⟨fun k i hs => ?_, fun k i k' i' hs => ?_, fun k i hs => ?_, fun b h => h.elim⟩, fun i hi => by omega, fun i hi => by omega, fun i hi => by omega, fun k _ h => h, fun k hk => ?_, fun k h => h.elim, hb1.trans (hb2.mono hb1.size)⟩
      · rcases hb with rfl | rfl <;> omega
      · omega
      · unfold Slot at hs; omega
      · unfold Slot at hs; omega
      · unfold Slot at hs; omega
      · have := hb1.size
        rcases hk with rfl | rfl <;> omega)
  obtain ⟨B, hB⟩ : ∃ B, w.heap.size = B := ⟨_, rfl⟩
  go_enter Try.func55, Try.ntmps55
  go_wp2_with (refine wpList_make_full _ rfl _ _ 140 rfl w.heap.size 146 i0 (.agg #[.pointer none, .pointer none, .bool false]) 3 Try.underlying140 hi hz0 hz1 .i64 .i64 _ _ ps rfl rfl rfl rfl (by rw [hz2]; omega) (by unfold maxLen; omega) (Nat.le_refl _) ?_; intro w1 hown1 hgrow1; have hX := hmk.out w1 hown1 hgrow1; clear hown1 hgrow1 hmk)
  obtain ⟨a0, ad0, M0, G0, hN⟩ := hX.out
  clear hX
  rw [hB] at hN
  replace hN := Lib.hid hN
  replace hB := Lib.hid hB
  generalize w1.alloc (.cells #[.slice (some ⟨B, 0, none⟩) ps ps, .slice none 0 0, .slice none 0 0] 144) = w2 at *
  generalize w1.heap.size = p at *
  go_loopw [5, 17] (fun v5 v17 wr => ∃ (j : Nat), v17 = .int .i64 j ∧ j ≤ ps ∧ Hid (∃ a ad M G, Nb w wr p B ps j a ad M G)) (fun _ v17 _ => (ps - (RowKit.intOf v17).toNat))
  case atStart => exact ⟨0, rfl, by omega, Lib.hid ⟨a0, ad0, M0, G0, hN.out⟩⟩
  case round =>
    clear hN
    obtain ⟨j, rfl, hj1, hN⟩ := hrel
    obtain ⟨a, ad, M, G, hN⟩ := hN.out
    replace hN := Lib.hid hN
    by_cases hj : j < ps
    · have i2 : (j : Int) < (ps : Int) := by omega
      have i0 : (0 : Int) ≤ (j : Int) := by omega
      have hS : Hid (∀ V, Below wr.heap.size wr V → V.cell? ⟨p, 0, none⟩ = some (.slice (some ⟨B, 0, none⟩) ps ps) ∧ V.cell? ⟨B, j * 3, none⟩ = some (a (j * 3)) ∧ V.cell? ⟨B, j * 3 + 1, none⟩ = some (a (j * 3 + 1)) ∧ V.cell? ⟨B, j * 3 + 2, none⟩ = some (a (j * 3 + 2)) ∧ V.frozen? ⟨B, j * 3, none⟩ = false ∧ V.frozen? ⟨B, j * 3 + 1, none⟩ = false ∧ V.frozen? ⟨B, j * 3 + 2, none⟩ = false) := Lib.hid fun V hb => by
        have h := hN.out.m.below hb
        exact ⟨h.c0, h.ca (by omega), h.ca (by omega), h.ca (by omega), h.fa _, h.fa _, h.fa _⟩
      have hNew : Hid (∀ V, Below wr.heap.size wr V → Calls Try.prog 66 #[] V fun e W => ∃ x, e = .returned (.pointer (some ⟨x, 0, none⟩)) ∧ (W.cell? ⟨p, 0, none⟩ = some (.slice (some ⟨B, 0, none⟩) ps ps) ∧ W.cell? ⟨B, j * 3, none⟩ = some (a (j * 3)) ∧ W.cell? ⟨B, j * 3 + 1, none⟩ = some (a (j * 3 + 1)) ∧ W.cell? ⟨B, j * 3 + 2, none⟩ = some (a (j * 3 + 2)) ∧ W.frozen? ⟨B, j * 3, none⟩ = false ∧ W.frozen? ⟨B, j * 3 + 1, none⟩ = false ∧ W.frozen? ⟨B, j * 3 + 2, none⟩ = false) ∧ Below V.heap.size V W ∧ Hid (Below wr.heap.size wr W ∧ V.heap.size ≤ x ∧ wr.heap.size ≤ x ∧ x < W.heap.size ∧ IsBuf W x [])) := Lib.hid fun V hb => (Bu.new_any V).mono fun e W ⟨he, hbW, hiW⟩ => ⟨V.heap.size, he, hS.out W (hb.trans (hbW.mono hb.size)), hbW, Lib.hid ⟨hb.trans (hbW.mono hb.size), Nat.le_refl _, hb.size, hiW.lt, hiW⟩⟩
      have hS0 := hS.out _ (Below.refl _ _).drew
      have hbd : Below wr.heap.size wr wr.drew := (Below.refl _ _).drew
      obtain ⟨s0, s1, s2, s3, s4, s5, s6⟩ := hS0
      go_wp2_with fail
      have hBp : ¬ B = p := fun e => hN.out.m.pB e.symm
      have hpB : ¬ p = B := fun e => hN.out.m.pB e
      go_region_held3 (fun W' => W'.cell? ⟨p, 0, none⟩ = some (.slice (some ⟨B, 0, none⟩) ps ps)) (first | exact s0 | assumption | go_keep) (first | (go_at_call 66; have hqq := hbA; ((with_reducible refine (hNew.out _ (by repeat (first | assumption | exact Below.refl _ _ | refine below_drewN ?_ _ | refine below_alloc ?_ _ | refine below_then ?_ (by assumption)))).mono ?_); rintro e wB ⟨xB, rfl, ⟨hk0, hk1, hk2, hk3, hk4, hk5, hk6⟩, hbB, hiB⟩)) | (go_at_call 66; ((with_reducible refine (hNew.out _ (by repeat (first | assumption | exact Below.refl _ _ | refine below_drewN ?_ _ | refine below_alloc ?_ _ | refine below_then ?_ (by assumption)))).mono ?_); rintro e wA ⟨xA, rfl, ⟨hm0, _⟩, hbA, hiA⟩)))
      all_goals
        have hAB : Below wA.heap.size wA wB := by first | exact hbB | exact (Below.refl _ _).drew.trans hbB | exact (below_drewN (Below.refl _ _) _).trans hbB
        have hq5 : wA.heap.size ≤ xB := hiB.out.2.1
        have hMore : Hid (∀ U : World, U.heap = (((wB.setCell ⟨B, j * 3, none⟩ (ptr xA)).setCell ⟨B, j * 3 + 1, none⟩ (ptr xB)).setCell ⟨B, j * 3 + 2, none⟩ (.bool false)).heap → U.os = wB.os → U.tape = wB.tape → U.output = wB.output → Hid (∃ a ad M G, Nb w U p B ps (j + 1) a ad M G)) := Lib.hid fun U g1 g2 g3 g4 => Lib.hid (by
          obtain ⟨a2, ad2, G2, hE⟩ := hN.out.more hj hiB.out.1 hiA.out.2.2.1 hiB.out.2.2.1 (by have := hiA.out.2.2.2.1; omega) (hiA.out.2.2.2.2.below hAB) hiB.out.2.2.2.2 g1 g2 g3 g4
          exact ⟨a2, ad2, M, G2, hE⟩)
        clear hS hNew hN hiA hiB hbA hbB hqq hAB s0 s1 s2 s3 s4 s5 s6
        go_wp2_with fail
        go_roundw
        case rel => exact ⟨j + 1, by go_num, by omega, hMore.out _ rfl rfl rfl rfl⟩
        case measure => simp [RowKit.intOf]; omega
    · obtain rfl : j = ps := by omega
      have hD := Lib.hid hN.out.done
      have hbl := Lib.hid hN.out.bel
      clear hN
      go_wp2_with fail
      go_ret2
      exact ⟨p, B, rfl, hD.out, by rw [← hB.out] at *; exact hbl.out⟩
end Po
end Go.Proofs.Ytclldajbibhcbaa
