/- For any slice of whole numbers the statement WaitOnce answers true and leaves it as it was: nobody waits in two places; who was woken may wait again, at the end. No condition. -/
import Derived.Test.YtkpmifkdnndccabHome
import Derived.Test.YtkpmifkdnndccabWaitTold
import Derived.WalkKit
import Derived.ProofKit
import Derived.OpenShut
import Derived.Deep.RegionHeld3
import Derived.Deep.RegionWith
import Derived.Deep.Cut
import Derived.Deep.CutBlock
import Derived.Deep.CutRange
import Derived.Deep.LoopGhost
import Derived.Deep.DeepCutAuto
import Derived.RegionTactic
import Derived.StillTailTactics
namespace Go.Proofs.Ytkpmifkdnndccab.waitOnce
open Go.ChangeShapes Go.WideShapes Go.ChangeAt Go.WideElems Go.RowKit Go.Lib Fx Ho Wt Rw Qu
set_option linter.unusedVariables false

theorem own : ownKnob Try.prog.godebug = none := by kernel_rfl

/-- Two rows of the law's own, in one block. -/
structure Ro2 (W : World) (r : Nat) (v : Nat → Value) (L : Nat → List Int) : Prop where
  head : ∃ X : Array Value, W.heap[r]? = some (.cells X 72 (0, 0)) ∧ X.size = 2 ∧ ∀ j, j < 2 → X[j]? = some (v j)
  row : ∀ j, j < 2 → OffRow W (v j) (L j)
  o1 : ∀ j, j < 2 → (v j).ownBlock ≠ some r
def own2 (r : Nat) (v : Nat → Value) : Home := fun k => k = r ∨ ∃ j, j < 2 ∧ (v j).ownBlock = some k
/-- Who waits where, by two lists. -/
def Zof (L : Nat → List Int) : Nat → List Int := fun j => if j < 2 then L j else []
theorem Zof_upd {L : Nat → List Int} {a : Nat} (ha : a < 2) (zs : List Int) : upd (Zof L) a zs = Zof (upd L a zs) := by
  funext j
  by_cases e : j = a
  · subst e; rw [upd_same]; unfold Zof; rw [if_pos ha, upd_same]
  · rw [upd_ne _ _ e]; unfold Zof; rw [upd_ne _ _ e]
theorem Zof_at {L : Nat → List Int} {a : Nat} (ha : a < 2) : Zof L a = L a := if_pos ha
theorem sum_two (L : Nat → List Int) : ∀ k, 2 ≤ k → sumZ (Zof L) k = (L 0).length + (L 1).length
  | 0, h => by omega
  | 1, h => by omega
  | 2, h => by show 0 + (Zof L 0).length + (Zof L 1).length = _; rw [Zof_at (by omega), Zof_at (by omega)]; omega
  | k + 3, h => by
    show sumZ (Zof L) (k + 2) + (Zof L (k + 2)).length = _
    rw [sum_two L (k + 2) (by omega)]
    unfold Zof; rw [if_neg (by omega)]; rfl
theorem sum_small (L : Nat → List Int) (h : (L 0).length + (L 1).length ≤ 100) : ∀ k, k ≤ 32 → sumZ (Zof L) k ≤ 1000000 := fun k hk => by
  rcases Nat.lt_or_ge k 2 with h2 | h2
  · rcases k with _ | _ | k
    · show 0 ≤ _; omega
    · show 0 + (Zof L 0).length ≤ _; rw [Zof_at (by omega)]; omega
    · omega
  · rw [sum_two L k h2]; omega
structure Wo (W0 W : World) (p r : Nat) (H : Home) (Z : Nat → List Int) (v : Nat → Value) (L : Nat → List Int) : Prop where
  s : Sw W0 W p H Z
  r2 : Ro2 W r v L
  o : Off (own2 r v) H
  l : Low W0.heap.size (own2 r v)
namespace Wo
variable {W0 W W' W1 : World} {p r : Nat} {H H' : Home} {Z Z' : Nat → List Int} {v : Nat → Value} {L : Nat → List Int}
theorem rlt (h : Wo W0 W p r H Z v L) {k : Nat} (hk : own2 r v k) : k < W.heap.size := by
  rcases hk with rfl | ⟨j, hj, hk⟩
  · obtain ⟨X, hX, _⟩ := h.r2.head; exact block_lt hX
  · exact (h.r2.row j hj).lt hk
theorem step (h : Wo W0 W p r H Z v L) (hw : Wrote H W H' W') (hs : Sw W0 W' p H' Z') : Wo W0 W' p r H' Z' v L := by
  obtain ⟨X, hX, x1, x2⟩ := h.r2.head
  exact ⟨hs, ⟨⟨X, (hw.block r (block_lt hX) (fun e => h.o r (.inl rfl) e)).trans hX, x1, x2⟩, fun j hj => (h.r2.row j hj).wrote hw (fun k hk e => h.o k (.inr ⟨j, hj, hk⟩) e), h.r2.o1⟩, hw.off h.o (fun k hk => h.rlt hk), h.l⟩
theorem below (h : Wo W0 W p r H Z v L) (hb : Below W.heap.size W W') : Wo W0 W' p r H Z v L := by
  obtain ⟨X, hX, x1, x2⟩ := h.r2.head
  exact ⟨h.s.below hb, ⟨⟨X, (hb.block r (block_lt hX)).trans hX, x1, x2⟩, fun j hj => off_below (h.r2.row j hj) hb, h.r2.o1⟩, h.o, h.l⟩
/-- A row is another one, new or part of the old one. -/
theorem put (h : Wo W0 W p r H Z v L) {a : Nat} (ha : a < 2) (hb : Below W.heap.size W W1) {v1 : Value} {zs : List Int} (hr : OffRow W1 v1 zs) (hn : ∀ k, v1.ownBlock = some k → (v a).ownBlock = some k ∨ W.heap.size ≤ k) : Wo W0 (W1.setCell ⟨r, a, none⟩ v1) p r H Z (upd v a v1) (upd L a zs) := by
  have h1 := h.below hb
  obtain ⟨X, hX, x1, x2⟩ := h1.r2.head
  have hr0 : r < W.heap.size := h.rlt (.inl rfl)
  have hq : v1.ownBlock ≠ some r := fun e => (hn r e).elim (h.r2.o1 a ha) (fun h2 => by omega)
  have hw2 : Wrote (fun k => k = r) W1 (fun k => k = r) (W1.setCell ⟨r, a, none⟩ v1) := wrote_setCell (H := fun k => k = r) (a := ⟨r, a, none⟩) (u := v1) rfl rfl rfl rfl rfl
  have hs : ∀ k, own2 r (upd v a v1) k → own2 r v k ∨ W.heap.size ≤ k := fun k hk => by
    rcases hk with rfl | ⟨j, hj, hk⟩
    · exact .inl (.inl rfl)
    · by_cases e : j = a
      · subst e; rw [upd_same] at hk; exact (hn k hk).imp (fun e => .inr ⟨j, hj, e⟩) id
      · rw [upd_ne _ _ e] at hk; exact .inl (.inr ⟨j, hj, hk⟩)
  refine ⟨h1.s.wrote hw2 (fun k hk e => h.o k (.inl e) hk) (fun k hk => by rw [show k = r from hk]; exact h.l r (.inl rfl)), ⟨⟨X.setIfInBounds a v1, by rw [heap_setCell_same _ r a _ _ _ hX], by rw [Array.size_setIfInBounds]; exact x1, fun j hj => ?_⟩, fun j hj => ?_, fun j hj => ?_⟩, fun k hk e => (hs k hk).elim (fun h2 => h.o k h2 e) (fun h2 => by have := h.s.lt e; omega), fun k hk => (hs k hk).elim (h.l k) (fun h2 => Nat.le_trans h.s.out.size h2)⟩
  · by_cases e : j = a
    · subst e; rw [upd_same]; simp [x1, hj]
    · rw [upd_ne _ _ e, Array.getElem?_setIfInBounds_ne (fun e' => e e'.symm)]; exact x2 j hj
  · by_cases e : j = a
    · subst e; rw [upd_same, upd_same]; exact hr.wrote hw2 (fun k hk e => hq (by rw [hk, e]))
    · rw [upd_ne _ _ e, upd_ne _ _ e]; exact (h1.r2.row j hj).wrote hw2 (fun k hk e' => h.r2.o1 j hj (by rw [hk, e']))
  · by_cases e : j = a
    · subst e; rw [upd_same]; exact hq
    · rw [upd_ne _ _ e]; exact h.r2.o1 j hj
theorem cell (h : Wo W0 W p r H Z v L) {j : Nat} (hj : j < 2) : W.cell? ⟨r, j, none⟩ = some (v j) ∧ W.frozen? ⟨r, j, none⟩ = false := by
  obtain ⟨X, hX, _, x2⟩ := h.r2.head
  exact ⟨cell_of hX (x2 j hj), frozen_of_row W r j _ _ hX⟩
theorem ints (h : Wo W0 W p r H Z v L) {j : Nat} (hj : j < 2) : Ints W (fun _ => True) (v j) (L j) := (h.r2.row j hj).ints.wider (fun _ _ _ => trivial)
end Wo
theorem lt2 {a : Nat} (h : a < 2) : a = 0 ∨ a = 1 := by omega
/-- Where somebody waits that is in one of the two lists. -/
theorem at_two {L : Nat → List Int} {g : Int} (h : g ∈ L 0 ∨ g ∈ L 1) : ∃ b A B, At (Zof L) g b A B := by
  by_cases h0 : g ∈ L 0
  · obtain ⟨A, B, e, hn⟩ := first_of h0
    exact ⟨0, A, B, by omega, fun j hj => by omega, by rw [Zof_at (by omega)]; exact e, hn⟩
  · obtain ⟨A, B, e, hn⟩ := first_of (h.resolve_left h0)
    exact ⟨1, A, B, by omega, fun j hj => by obtain rfl : j = 0 := by omega
                                             rw [Zof_at (by omega)]; exact h0, by rw [Zof_at (by omega)]; exact e, hn⟩
theorem not_two {L : Nat → List Int} {g : Int} (h0 : g ∉ L 0) (h1 : g ∉ L 1) : ∀ j, j < 32 → g ∉ Zof L j := fun j hj => by
  unfold Zof
  by_cases e : j < 2
  · rw [if_pos e]
    rcases lt2 e with rfl | rfl
    · exact h0
    · exact h1
  · rw [if_neg e]; simp
set_option maxRecDepth 100000 in
set_option maxHeartbeats 4000000 in
theorem walk (v0 : Value) (z0 : List Int) (w : World) (h0 : Ints w (fun k => k < w.heap.size) v0 z0) :
    Calls Try.prog 8 #[v0] w fun e w' => e = .returned (.bool true) ∧ Below w.heap.size w w' := by
  obtain ⟨sp, cap, rfl, hm, hc⟩ := h0
  obtain ⟨n, hn⟩ : ∃ n, z0.length = n := ⟨_, rfl⟩
  rw [hn] at hm hc ⊢
  clear hn
  by_cases hn60 : 60 < n
  · have i1 : (60 : Int) < (n : Int) := by omega
    have ct := told_any w
    clear hc
    go_enter Try.func8, Try.ntmps8
    go_wp2_with fail
    with_reducible refine Calls.mono (ct) ?_
    rintro e w1 ⟨rfl, hb⟩
    clear ct
    go_wp2_with fail
    go_ret
    exact ⟨rfl, hb⟩
  · have i1 : ¬ (60 : Int) < (n : Int) := by omega
    have cn := new_any w
    have hel : Hid (∀ wr, Below w.heap.size w wr → ∀ i, i < n → ∃ b off x Z Y m, ∃ a g : Nat, sp = some ⟨b, off, none⟩ ∧ wr.cell? ⟨b, off + i, none⟩ = some (.int .i64 x) ∧ IntKind.u64.wrap x = Z ∧ wrap64 (Z.tmod 2) = (a : Int) ∧ a < 2 ∧ IntKind.u64.wrap (wrap64 (x.tdiv 2)) = Y ∧ wrap64 (Y.tmod 6) = (g : Int) ∧ bits .and .i64 x 64 = m) := Lib.hid fun wr hb i hi => by
      obtain ⟨b, off, e, _, _, h5⟩ := hc i hi
      generalize z0.getD i 0 = x at *
      have hz : 0 ≤ IntKind.u64.wrap x ∧ IntKind.u64.wrap x < 18446744073709551616 := by rw [IntKind.wrap_u64]; omega
      have hy : 0 ≤ IntKind.u64.wrap (wrap64 (x.tdiv 2)) ∧ IntKind.u64.wrap (wrap64 (x.tdiv 2)) < 18446744073709551616 := by rw [IntKind.wrap_u64]; omega
      have h2 : ∀ Z : Int, 0 ≤ Z → wrap64 (Z.tmod 2) = ((Z % 2).toNat : Int) ∧ (Z % 2).toNat < 2 := fun Z hZ => by
        rw [Int.tmod_eq_emod_of_nonneg hZ, show wrap64 (Z % 2) = Z % 2 from IntWalk.wrap64_in _ ⟨by omega, by omega⟩]; omega
      have h6 : ∀ Z : Int, 0 ≤ Z → wrap64 (Z.tmod 6) = ((Z % 6).toNat : Int) := fun Z hZ => by
        rw [Int.tmod_eq_emod_of_nonneg hZ, show wrap64 (Z % 6) = Z % 6 from IntWalk.wrap64_in _ ⟨by omega, by omega⟩]; omega
      exact ⟨b, off, x, _, _, _, (IntKind.u64.wrap x % 2).toNat, (IntKind.u64.wrap (wrap64 (x.tdiv 2)) % 6).toNat, e, cell_then hb h5, rfl, (h2 _ hz.1).1, (h2 _ hz.1).2, rfl, h6 _ hy.1, rfl⟩
    clear hc
    go_enter Try.func8, Try.ntmps8
    go_wp2_with fail
    with_reducible refine Calls.mono (cn) ?_
    rintro e w1 ⟨rfl, hs⟩
    clear cn
    have hwo : Hid (Wo w (w1.alloc (.cells #[.slice none 0 0, .slice none 0 0] 72)) w.heap.size w1.heap.size (home w.heap.size fun _ => .slice none 0 0) (Zof fun _ => []) (fun _ => .slice none 0 0) (fun _ => [])) := Lib.hid (by
      have hb1 := below_alloc (Below.refl _ w1) (.cells #[.slice none 0 0, .slice none 0 0] 72)
      have hz : (Zof fun _ => []) = fun _ => [] := by funext j; unfold Zof; split <;> rfl
      rw [hz]
      have hsz := hs.out.size
      refine ⟨hs.below hb1, ⟨⟨_, heap_alloc_new _ _, rfl, fun j hj => ?_⟩, fun j hj => offrow_nil _, fun j hj => by simp [Value.ownBlock]⟩, fun k hk e => ?_, fun k hk => ?_⟩
      · rcases lt2 hj with rfl | rfl <;> rfl
      · rcases hk with rfl | ⟨j, hj, hk⟩
        · have := hs.lt e; omega
        · simp [Value.ownBlock] at hk
      · rcases hk with rfl | ⟨j, hj, hk⟩
        · exact hsz
        · simp [Value.ownBlock] at hk)
    clear hs
    go_wp2_with fail
    generalize w1.alloc (.cells #[.slice none 0 0, .slice none 0 0] 72) = w2 at *
    generalize w1.heap.size = r at *
    go_loopw [5] (fun x wr => ∃ (k : Nat) (H : Home) (v : Nat → Value) (L : Nat → List Int), x = .int .i64 k ∧ k ≤ n ∧ Hid ((L 0).length + (L 1).length ≤ k) ∧ Hid (Wo w wr w.heap.size r H (Zof L) v L)) (fun x _ => (n - (RowKit.intOf x).toNat))
    case atStart => exact ⟨0, _, _, _, rfl, by omega, Lib.hid (by simp), hwo⟩
    case round =>
      clear hwo
      obtain ⟨k, H, v, L, rfl, k1, hL, hs⟩ := hrel
      by_cases hk : k < n
      · have i2 : (k : Int) < (n : Int) := by omega
        have i0 : (0 : Int) ≤ (k : Int) := by omega
        obtain ⟨b, off, x, Z, Y, m, a, g, rfl, c0, hZ, hZ2, a2, hY, hY2, hm6⟩ := hel.out wr hs.out.s.out k hk
        replace hm6 := Lib.hid hm6
        go_wp2_with fail
        go_quiet (fail)
        try rw [hY2]
        try rw [hZ2]
        have c1 : (wr.drewN nq).cell? ⟨b, off + k, none⟩ = some (.int .i64 x) := c0
        have hs := Lib.hid (hs.out.below (below_drewN (Below.refl _ _) nq))
        generalize wr.drewN nq = w3 at *
        clear c0 hZ hZ2 hY hY2
        have a32 : a < 32 := by omega
        have a0 : (0 : Int) ≤ (a : Int) := by omega
        have aI : (a : Int) < 2 := by omega
        by_cases hm0 : m = 0
        · subst hm0
          have hm6 := hm6.out
          obtain ⟨d0, -⟩ := hs.out.cell (j := 0) (by omega)
          obtain ⟨d1, -⟩ := hs.out.cell (j := 1) (by omega)
          have ch0 := has_any (g : Int) (hs.out.ints (j := 0) (by omega))
          have ch1 := has_any (g : Int) (hs.out.ints (j := 1) (by omega))
          obtain ⟨s0, q0, e0⟩ := (hs.out.r2.row 0 (by omega)).slice
          obtain ⟨s1, q1, e1⟩ := (hs.out.r2.row 1 (by omega)).slice
          rw [e0] at d0 ch0
          rw [e1] at d1 ch1
          clear e0 e1
          by_cases h0 : (g : Int) ∈ L 0
          · rw [show decide ((g : Int) ∈ L 0) = true from decide_eq_true h0] at ch0
            obtain ⟨bb, A, B, hat⟩ := at_two (.inl h0)
            have cb := wait_busy hs.out.s a32 (g : Int) hat
            have hfin := Lib.hid (And.intro hL hs)
            clear hL hs hat ch1 h0 d1
            go_wp2_with fail
            with_reducible refine Calls.mono ch0 ?_
            rintro e w4 ⟨rfl, rfl⟩
            clear ch0
            go_wp2_with fail
            with_reducible refine Calls.mono cb ?_
            rintro e w4 ⟨rfl, rfl⟩
            clear cb d0 hm6 c1
            obtain ⟨hL, hs⟩ := hfin.out
            go_wp2_with fail
            go_roundw
            case rel => exact ⟨k + 1, H, v, L, by go_num, by omega, Lib.hid (by have := hL.out; omega), hs⟩
            case measure => simp [RowKit.intOf]; omega
          · rw [show decide ((g : Int) ∈ L 0) = false from decide_eq_false h0] at ch0
            by_cases h1 : (g : Int) ∈ L 1
            · rw [show decide ((g : Int) ∈ L 1) = true from decide_eq_true h1] at ch1
              obtain ⟨bb, A, B, hat⟩ := at_two (L := L) (.inr h1)
              have cb := wait_busy hs.out.s a32 (g : Int) hat
              have hfin := Lib.hid (And.intro hL hs)
              clear hL hs hat h0 h1
              go_wp2_with fail
              with_reducible refine Calls.mono ch0 ?_
              rintro e w4 ⟨rfl, rfl⟩
              clear ch0
              go_wp2_with fail
              with_reducible refine Calls.mono ch1 ?_
              rintro e w4 ⟨rfl, rfl⟩
              clear ch1
              go_wp2_with fail
              with_reducible refine Calls.mono cb ?_
              rintro e w4 ⟨rfl, rfl⟩
              clear cb d0 d1 hm6 c1
              obtain ⟨hL, hs⟩ := hfin.out
              go_wp2_with fail
              go_roundw
              case rel => exact ⟨k + 1, H, v, L, by go_num, by omega, Lib.hid (by have := hL.out; omega), hs⟩
              case measure => simp [RowKit.intOf]; omega
            · rw [show decide ((g : Int) ∈ L 1) = false from decide_eq_false h1] at ch1
              have hLa : Hid ((L a).length ≤ 60) := Lib.hid (by have := hL.out; rcases lt2 a2 with rfl | rfl <;> omega)
              have cw := wait_in hs.out.s a32 (g : Int) (not_two h0 h1) (by rw [Zof_at a2]; have := hLa.out; omega)
              rw [Zof_at a2, Zof_upd a2] at cw
              clear h0 h1
              go_wp2_with fail
              with_reducible refine Calls.mono ch0 ?_
              rintro e w4 ⟨rfl, rfl⟩
              clear ch0
              go_wp2_with fail
              with_reducible refine Calls.mono ch1 ?_
              rintro e w4 ⟨rfl, rfl⟩
              clear ch1
              go_wp2_with fail
              with_reducible refine Calls.mono cw ?_
              rintro e w4 ⟨rfl, H4, hw4, hs4⟩
              have hs := hs.out.step hw4 hs4
              clear cw hw4 hs4 d0 d1 hm6 c1
              -- the law's own row anew
              obtain ⟨da, -⟩ := hs.cell a2
              obtain ⟨sa, qa, ea⟩ := (hs.r2.row a a2).slice
              rw [ea] at da
              have hb1 := below_alloc (Below.refl _ w4) (.cells #[] 3)
              have hE := Lib.hid (off_empty (heap_alloc_new w4 (.cells #[] 3)))
              have hsrc : Hid (Src Try.prog 1 26 (.slice sa (L a).length qa) (L a).length (cells (L a)) (w4.alloc (.cells #[] 3))) := Lib.hid (by rw [← ea]; exact src_of_ints ((hs.ints a2).below hb1))
              have hbd : ([] : List Int).length + (L a).length ≤ 1000000 := by have := hLa.out; simp; omega
              have hnx : Hid (∀ (w5 : World) (v5 : Value), OffRow w5 v5 ([] ++ L a) → Wrote (fun k' => (Value.slice (some ⟨w4.heap.size, 0, none⟩) 0 0).ownBlock = some k') (w4.alloc (.cells #[] 3)) (fun k' => v5.ownBlock = some k') w5 →
                  Hid (OffRow (w5.alloc (.cells #[.int .i64 g] 3)) v5 (L a)) ∧ Hid (Src Try.prog 1 26 (.slice (some ⟨w5.heap.size, 0, none⟩) 1 1) [(g : Int)].length (cells [(g : Int)]) (w5.alloc (.cells #[.int .i64 g] 3))) ∧
                  Hid (∀ (w6 : World) (v6 : Value), OffRow w6 v6 (L a ++ [(g : Int)]) → Wrote (fun k' => v5.ownBlock = some k') (w5.alloc (.cells #[.int .i64 g] 3)) (fun k' => v6.ownBlock = some k') w6 → w6.cell? ⟨r, a, none⟩ = some (.slice sa (L a).length qa) ∧ w6.frozen? ⟨r, a, none⟩ = false ∧ (∃ s n c, v6 = .slice s n c) ∧ Hid (Wo w (w6.setCell ⟨r, a, none⟩ v6) w.heap.size r H4 (Zof (upd L a (L a ++ [(g : Int)]))) (upd v a v6) (upd L a (L a ++ [(g : Int)]))))) := Lib.hid fun w5 v5 p1 p2 => by
                have hlow5 : Low w4.heap.size (fun k' => v5.ownBlock = some k') := p2.low (fun k' hk' => by obtain rfl : w4.heap.size = k' := Option.some.inj hk'; exact Nat.le_refl _) hb1.size
                have hb5 : Below w4.heap.size w4 w5 := hb1.trans (below_of_wrote p2 (fun k' hk' => by obtain rfl : w4.heap.size = k' := Option.some.inj hk'; exact Nat.le_refl _) hb1.size)
                have hb6 := below_alloc (Below.refl _ w5) (.cells #[.int .i64 g] 3)
                refine ⟨Lib.hid (off_below p1 hb6), Lib.hid (src_one w5 (g : Int)), Lib.hid fun w6 v6 t1 t2 => ?_⟩
                have hlow6 : Low w4.heap.size (fun k' => v6.ownBlock = some k') := t2.low hlow5 (Nat.le_trans hb5.size hb6.size)
                have hb7 : Below w4.heap.size w4 w6 := (hb5.trans (hb6.mono hb5.size)).trans (below_of_wrote t2 hlow5 (Nat.le_trans hb5.size hb6.size))
                obtain ⟨f1, f2⟩ := (hs.below hb7).cell a2
                obtain ⟨s6, c6, e6⟩ := t1.slice
                exact ⟨by rw [← ea]; exact f1, f2, ⟨s6, _, c6, e6⟩, Lib.hid (hs.put a2 hb7 t1 (fun k' hk' => .inr (hlow6 k' hk')))⟩
              have hbd2 : (L a).length + [(g : Int)].length ≤ 1000000 := by have := hLa.out; simp; omega
              have hL2 : Hid (((upd L a (L a ++ [(g : Int)])) 0).length + ((upd L a (L a ++ [(g : Int)])) 1).length ≤ k + 1) := Lib.hid (by
                have := hL.out
                rcases lt2 a2 with rfl | rfl
                · rw [upd_same, upd_ne _ _ (by omega)]; simp; omega
                · rw [upd_same, upd_ne _ _ (by omega)]; simp; omega)
              replace hs := Lib.hid hs
              have hr4 : r < w4.heap.size := hs.out.rlt (.inl rfl)
              clear hs hL hLa ea hb1
              go_wp2_with (first
                | (at_builtin; refine wpList_append_off rfl (.tmp 110) (.tmp 113) rfl rfl hE.out rfl rfl hsrc.out hbd ?_; intro v5 w5 p1 p2; have hk := hnx.out w5 v5 p1 p2; obtain ⟨hR5, hS5, hnx2⟩ := hk; clear p1 p2 hnx hE hsrc)
                | (at_builtin; refine wpList_append_off rfl (.tmp 114) (.tmp 116) rfl rfl hR5.out rfl rfl hS5.out hbd2 ?_; intro v6 w6 p1 p2; have hk := hnx2.out w6 v6 p1 p2; obtain ⟨f1, f2, ⟨s6, n6, c6, rfl⟩, hfin⟩ := hk; clear p1 p2 hnx2 hR5 hS5))
              go_roundw
              case rel => exact ⟨k + 1, H4, _, _, by go_num, by omega, hL2, hfin⟩
              case measure => simp [RowKit.intOf]; omega
        · have hmm : (m == 0) = false := by rw [beq_eq_false_iff_ne]; exact hm0
          have hm6 := hm6.out
          obtain ⟨da, -⟩ := hs.out.cell a2
          obtain ⟨sa, qa, ea⟩ := (hs.out.r2.row a a2).slice
          rw [ea] at da
          cases hLa : L a with
          | nil =>
            have ck := wake_none hs.out.s a32 (by rw [Zof_at a2]; exact hLa)
            rw [hLa] at da
            have hfin := Lib.hid (And.intro hL hs)
            replace da : w3.cell? ⟨r, a, none⟩ = some (.slice sa 0 qa) := da
            clear hL hs ea hm0 hLa
            go_wp2_with fail
            with_reducible refine Calls.mono ck ?_
            rintro e w4 ⟨rfl, rfl⟩
            clear ck
            go_wp2_with fail
            clear da hm6 c1 hmm
            obtain ⟨hL, hs⟩ := hfin.out
            go_roundw
            case rel => exact ⟨k + 1, H, v, L, by go_num, by omega, Lib.hid (by have := hL.out; omega), hs⟩
            case measure => simp [RowKit.intOf]; omega
          | cons y T =>
            have ck := wake_some hs.out.s a32 (g := y) (T := T) (by rw [Zof_at a2]; exact hLa)
            rw [Zof_upd a2] at ck
            clear da hm0
            go_wp2_with fail
            with_reducible refine Calls.mono ck ?_
            rintro e w4 ⟨rfl, H4, hw4, hs4⟩
            have hs := hs.out.step hw4 hs4
            clear ck hw4 hs4 ea
            obtain ⟨da, fa⟩ := hs.cell a2
            have hrow := hs.r2.row a a2
            obtain ⟨ao, b2, off2, cap2, hv, g1, g2, g3, g4⟩ := hrow.cell
            rw [hLa] at hv g1 g4 hrow
            have hln : (y :: T).length = T.length + 1 := rfl
            rw [hln] at hv g1
            obtain ⟨rfl, g5⟩ := g3 (by rw [hLa] at *; omega)
            have g7 : w4.cell? ⟨b2, off2, none⟩ = some (.int .i64 y) := by simpa using g4 0 (by simp)
            have key : Hid (∀ a1 n, (a1 = some ⟨b2, off2 + 1, none⟩ ∨ cap2 = 1 ∧ a1 = some ⟨b2, off2, none⟩) → n = T.length → Hid (Wo w (w4.setCell ⟨r, a, none⟩ (.slice a1 n (cap2 - 1))) w.heap.size r H4 (Zof (upd L a T)) (upd v a (.slice a1 n (cap2 - 1))) (upd L a T))) := Lib.hid fun a1 n ha1 hn => by
              subst hn
              have hr2 : OffRow w4 (.slice (some ⟨b2, off2, none⟩) (y :: T).length cap2) (y :: T) := by rw [hln, ← hv]; exact hrow
              have hd : OffRow w4 (.slice a1 T.length (cap2 - 1)) T := Qu.OffRow.drop (n := 1) (a1 := a1) hr2 (by simp) (ha1.imp (fun e => by rw [e]; simp [addr_add]) id)
              refine Lib.hid (hs.put a2 (Below.refl _ _) hd (fun k' hk' => .inl ?_))
              rw [hv]
              rcases ha1 with rfl | ⟨_, rfl⟩
              · exact hk'
              · exact hk'
            have hL2 : Hid (((upd L a T) 0).length + ((upd L a T) 1).length ≤ k + 1) := Lib.hid (by
              have := hL.out
              rcases lt2 a2 with rfl | rfl
              · rw [upd_same, upd_ne _ _ (by omega)]; rw [hLa] at this; simp at this; omega
              · rw [upd_same, upd_ne _ _ (by omega)]; rw [hLa] at this; simp at this; omega)
            rw [hv] at da
            unfold maxLen at g2
            have hpb : b2 ≠ r := fun e => hs.r2.o1 a a2 (by rw [hv, ← e]; rfl)
            clear hs hrow hv g3 g4 hLa hL hln
            generalize T.length = t at *
            have t1 : (1 : Int) ≤ (t : Int) + 1 := by omega
            have t0 : (0 : Int) < (t : Int) + 1 := by omega
            by_cases hc1 : cap2 = 1
            · obtain rfl : t = 0 := by omega
              subst hc1
              have hfin := key.out (some ⟨b2, off2, none⟩) 0 (.inr ⟨rfl, rfl⟩) rfl
              clear key
              go_wp2_with fail
              go_roundw
              case rel => exact ⟨k + 1, H4, _, _, by go_num, by omega, hL2, hfin⟩
              case measure => simp [RowKit.intOf]; omega
            · have hfin := key.out (some ⟨b2, off2 + 1, none⟩) t (.inl rfl) rfl
              clear key
              go_wp2_with fail
              go_roundw
              case rel => exact ⟨k + 1, H4, _, _, by go_num, by omega, hL2, hfin⟩
              case measure => simp [RowKit.intOf]; omega
      · obtain rfl : k = n := by omega
        have i2 : ¬ ((k : Int) < (k : Int)) := by omega
        have cn := wake_nil 0 wr
        clear hel
        go_wp2_with fail
        with_reducible refine Calls.mono cn ?_
        rintro e w4 ⟨rfl, rfl⟩
        clear cn
        obtain ⟨d0, -⟩ := hs.out.cell (j := 0) (by omega)
        obtain ⟨d1, -⟩ := hs.out.cell (j := 1) (by omega)
        have cA : Hid (∀ j, j < 2 → ∀ W', Wo w W' w.heap.size r H (Zof L) v L → Calls Try.prog 43 #[.pointer (some ⟨w.heap.size, 0, none⟩), .int .i64 (j : Nat)] W' fun e w2 => ∃ v', e = .returned v' ∧ Below W'.heap.size W' w2 ∧ Ints w2 (fun _ => True) v' (L j)) := Lib.hid fun j hj W' h => (all_in h.s (a := j) (by omega) (by rw [Zof_at hj]; have := hL.out; rcases lt2 hj with rfl | rfl <;> omega)).mono fun e w2 ⟨v', a, b, c⟩ => ⟨v', a, b, by rw [Zof_at hj] at c; exact c.wider (fun _ _ _ => trivial)⟩
        have cI : Hid (∀ j, j < 2 → ∀ W' v', Ints W' (fun _ => True) v' (L j) → Wo w W' w.heap.size r H (Zof L) v L → Calls Try.prog 21 #[v', v j] W' (AnsB (.bool true) W')) := Lib.hid fun j hj W' v' hv h => (ints_any hv (h.ints hj)).mono fun _ _ h => h.below
        have cL : Hid (∀ W', Wo w W' w.heap.size r H (Zof L) v L → Calls Try.prog 41 #[.pointer (some ⟨w.heap.size, 0, none⟩)] W' (Still (.int .i64 (((L 0).length + (L 1).length : Nat) : Int)) W')) := Lib.hid fun W' h => by
          have := len_any h.s (sum_small L (by have := hL.out; omega))
          rw [sum_two L 32 (by omega)] at this; exact this
        obtain ⟨s0, q0, e0⟩ := (hs.out.r2.row 0 (by omega)).slice
        obtain ⟨s1, q1, e1⟩ := (hs.out.r2.row 1 (by omega)).slice
        have cA0 : Hid (∀ W', Wo w W' w.heap.size r H (Zof L) v L → Calls Try.prog 43 #[.pointer (some ⟨w.heap.size, 0, none⟩), .int .i64 0] W' fun e w2 => ∃ v', e = .returned v' ∧ Below W'.heap.size W' w2 ∧ Ints w2 (fun _ => True) v' (L 0)) := Lib.hid (cA.out 0 (by omega))
        have cA1 : Hid (∀ W', Wo w W' w.heap.size r H (Zof L) v L → Calls Try.prog 43 #[.pointer (some ⟨w.heap.size, 0, none⟩), .int .i64 1] W' fun e w2 => ∃ v', e = .returned v' ∧ Below W'.heap.size W' w2 ∧ Ints w2 (fun _ => True) v' (L 1)) := Lib.hid (cA.out 1 (by omega))
        have cI0 := Lib.hid (cI.out 0 (by omega))
        have cI1 := Lib.hid (cI.out 1 (by omega))
        rw [e0] at d0 cI0
        rw [e1] at d1 cI1
        clear cA cI e0 e1
        have hl0 : ((L 0).length : Int) + ((L 1).length : Int) ≤ 60 := by have := hL.out; omega
        have q5 : IntKind.i64.wrap (((L 0).length : Int) + ((L 1).length : Int)) = (((L 0).length + (L 1).length : Nat) : Int) := by rw [IntKind.wrap_i64]; omega
        have hsd := hs.out.below (Below.refl _ _).drew
        clear hL hs
        go_wp2_with fail
        go_region_held3 (fun W' => Wo w W' w.heap.size r H (Zof L) v L ∧ W'.cell? ⟨r, 0, none⟩ = some (.slice s0 (L 0).length q0) ∧ W'.cell? ⟨r, 1, none⟩ = some (.slice s1 (L 1).length q1)) (first | exact ⟨hsd, d0, d1⟩ | assumption | (go_split_ands; exact ⟨Wo.below (by assumption) (by assumption), cell_then (by assumption) (by assumption), cell_then (by assumption) (by assumption)⟩)) (first | (go_at_call 44; ((with_reducible refine (told_any _).mono ?_); rintro e w' ⟨rfl, hb⟩)) | (go_at_call 43; ((with_reducible refine (cA0.out _ (by exact (by assumption : _ ∧ _).1)).mono ?_); rintro e wA ⟨v', rfl, hb, hv⟩)) | (go_at_call 43; ((with_reducible refine (cA1.out _ (by exact (by assumption : _ ∧ _).1)).mono ?_); rintro e wB ⟨v', rfl, hb, hv⟩)) | (go_at_call 21; ((with_reducible refine (cI0.out _ _ (by assumption) (by exact (by assumption : _ ∧ _).1)).mono ?_); rintro e w' ⟨rfl, hb⟩)) | (go_at_call 21; ((with_reducible refine (cI1.out _ _ (by assumption) (by exact (by assumption : _ ∧ _).1)).mono ?_); rintro e w' ⟨rfl, hb⟩)) | (go_at_call 41; ((with_reducible refine (cL.out _ (by exact (by assumption : _ ∧ _).1)).mono ?_); rintro e w' ⟨rfl, rfl⟩)) | (go_at_call 35; ((with_reducible refine (wait_nil 0 1 _).mono ?_); rintro e w' ⟨rfl, rfl⟩)) | (go_at_call 41; ((with_reducible refine (len_nil _).mono ?_); rintro e w' ⟨rfl, rfl⟩)))
        all_goals
          go_wp2_with fail
          go_ret
          exact ⟨rfl, ((by assumption : Wo w _ w.heap.size r H (Zof L) v L ∧ _ ∧ _).1).s.out⟩

set_option maxRecDepth 100000 in
theorem lifted (os : Os) (started : os.Started) (H : Type) (enc : TypeId × Value → H) :
    ReturnsInHanded {} Try.checked os 8 .any (Rows.waitOnceSpec.pre6 enc Try.prog Try.f8 Rows.waitOnceRow.domain false) (Rows.waitOnceSpec.post enc Try.prog Try.f8 false true false false) := by
  refine returnsInHanded_of_change (C := Try.checked) own started (by kernel_rfl) Try.func8
    (ChangeSpec.witness6 (enc := enc) (C := Try.checked) false ⟨#[], #[.slice none 0 0], []⟩ 8 (by kernel_rfl) (by kernel_rfl) (by kernel_rfl) (by kernel_rfl)) ?_
  intro W base args ds gs before hval0 hW hcnd _
  have hval : ∀ (j : Nat) t v, Try.f8.params[j]? = some t → args[j]? = some v → Value.okWide Try.prog W .any base t v := hval0
  have hW' := hW
  obtain ⟨p, q, hA0, hV, rfl, hfz, hnd⟩ := hW
  have hA : DataW.TrodAll enc Try.prog W 0 (fun _ => true) true Try.f8.params.toList args.toList ds p := hA0
  rw [Try.params8] at hA hval
  obtain ⟨v0, vs0, d0, ds0, p0, q0, hargs, rfl, rfl, h0, r0⟩ := trodAll_cons hA
  obtain ⟨rfl, rfl, rfl⟩ := trodAll_nil r0
  obtain rfl : args = #[v0] := by cases args; simp_all
  obtain ⟨rfl, rfl⟩ := trodVars_none hV
  obtain ⟨z0, i0⟩ := arg_ints (hval 0 26 v0 rfl rfl) h0
  clear hA0 hval0
  simp only [List.append_nil] at hW'
  have lt0 : ∀ x ∈ p0, x.block < W.heap.size := fun x hx => by have := hW'.lt x (by simp [hx]); simpa using this
  refine (walk v0 z0 W i0).mono fun e W' ⟨he, hg⟩ => ?_
  subst he
  exact ⟨_, rfl, post_of_kept (pa := _) (pv := []) hW' (fun _ _ _ => (trodAll_cons_mk (shut_bool Try.underlying4 _) trodAll_mk0)) (trodAll_cons_mk (Below.trod laidOut (by kernel_rfl) (of_decide_eq_true (by kernel_rfl)) h0 hg lt0) trodAll_mk0) (fun _ _ => rfl) (by simp) hg⟩

theorem over : Rows.waitOnceRow.holds Try.pinned (OpenSpec.ofChange Rows.waitOnceSpec) :=
  OpenClaim.holds_of_wide 8 Try.f8 rfl rfl rfl rfl rfl rfl rfl ⟨rfl, rfl, rfl, rfl, rfl⟩ rfl rfl rfl rfl rfl (by kernel_rfl) Try.func8 (by kernel_rfl)
    (of_decide_eq_true (by kernel_rfl)) (by unfold Func.isWrapper; first | (rw [if_pos (by decide +kernel)]; kernel_rfl) | (rw [if_neg (by decide +kernel)]; exact ⟨rfl, rfl⟩))
    (fun os started H enc _ => lifted os started H enc)

theorem proved : Rows.WaitOnceSaid :=
  over
#print axioms proved
end Go.Proofs.Ytkpmifkdnndccab.waitOnce
