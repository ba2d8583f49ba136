/- Who is taken out of the queue is gone, the first of like ones; the others stay in their order: any numbers from 0 to 9 (1 to 60), any of them taken out. No condition. -/
import Derived.Test.YtgmcimhlkccfdaaQueueTold
import Derived.Test.YtgmcimhlkccfdaaQueueDel
import Derived.Test.YtgmcimhlkccfdaaOut
import Derived.WalkKit
import Derived.ProofKit
import Derived.OpenShut
import Derived.Deep.RegionHeld3
import Derived.Deep.RegionWith
import Derived.Deep.Cut
import Derived.Deep.CutBlock
import Derived.Deep.CutRange
import Derived.Deep.DeepCutAuto
import Derived.RegionTactic
namespace Go.Proofs.Ytgmcimhlkccfdaa.queueDels
open Go.ChangeShapes Go.WideShapes Go.ChangeAt Go.WideElems Go.RowKit Go.Lib Fx Ho Qu Rw
set_option linter.unusedVariables false

theorem own : ownKnob Try.prog.godebug = none := by kernel_rfl

/-- The numbers that the statement puts. -/
def wants (z : List Int) : List Int := z.map fun y => IntKind.u64.wrap y % 10
theorem wants_len (z : List Int) : (wants z).length = z.length := List.length_map ..
theorem wants_more {z : List Int} {i : Nat} (h : i < z.length) : wants (z.take (i + 1)) = wants (z.take i) ++ [IntKind.u64.wrap (z.getD i 0) % 10] := by
  unfold wants
  rw [tk_more h, List.map_append]; rfl
theorem home_nil {p k : Nat} (h : home p (.slice none 0 0) k) : k = p := h.elim id (fun e => by cases e)
set_option maxRecDepth 100000 in
set_option maxHeartbeats 4000000 in
theorem walk (v0 : Value) (z0 : List Int) (a1 : Int) (w : World) (h0 : Ints w (fun k => k < w.heap.size) v0 z0) (w1 : (Lit.int .i64 a1).wf = true) :
    Calls Try.prog 12 #[v0, .int .i64 a1] w fun e w' => e = .returned (.bool true) ∧ Below w.heap.size w w' := by
  have ct := fun w => told_any w
  obtain ⟨sp, cap, rfl, hmx, hc⟩ := h0
  obtain ⟨l, hl⟩ : ∃ l, z0.length = l := ⟨_, rfl⟩
  rw [hl] at hmx hc
  rw [hl]
  have hcell : Hid (∀ W, Below w.heap.size w W → ∀ i, i < l → ∃ b off, sp = some ⟨b, off, none⟩ ∧ W.cell? ⟨b, off + i, none⟩ = some (.int .i64 (z0.getD i 0))) := fun W hb i hi => by
    obtain ⟨b, off, e, _, _, k1⟩ := hc i hi
    exact ⟨b, off, e, cell_then hb k1⟩
  clear hc
  by_cases hno : l = 0 ∨ 60 < l
  · have g1 : ((l : Int) == 0) = true ∨ ((l : Int) == 0) = false ∧ (60 : Int) < (l : Int) := by
      rcases hno with h | h
      · left; subst h; rfl
      · right; exact ⟨by rw [beq_eq_false_iff_ne]; omega, by omega⟩
    clear hl hno
    rcases g1 with g1 | ⟨g1, g2⟩
    all_goals
      go_enter Try.func12, Try.ntmps12
      go_wp2_with fail
      with_reducible refine Calls.mono (ct w) ?_
      rintro e w1 ⟨rfl, hb⟩
      go_wp2_with fail
      go_ret
      exact ⟨rfl, hb⟩
  have g1 : ((l : Int) == 0) = false := by rw [beq_eq_false_iff_ne]; omega
  have g2 : (l : Int) ≤ 60 := by omega
  have l1 : l ≤ 60 := by omega
  have l0 : 0 < l := by omega
  have cn := Qu.new_any w
  obtain ⟨p, hp⟩ : ∃ p, w.heap.size = p := ⟨_, rfl⟩
  have hp0 := Lib.hid hp
  rw [hp] at cn
  clear hp hno
  have hz0 := Lib.hid hl
  clear hl
  go_enter Try.func12, Try.ntmps12
  go_wp2_with fail
  with_reducible refine Calls.mono (cn) ?_
  rintro e w1 ⟨rfl, hB1, hQ1⟩
  have hlt := hQ1.lt
  replace hQ1 := Lib.hid hQ1
  replace hB1 := Lib.hid hB1
  clear cn
  go_wp2_with fail
  go_loopw [6, 7] (fun v i wr => ∃ (s : Option Addr) (c j : Nat), v = .slice s j c ∧ i = .int .i64 j ∧ j ≤ l ∧ p < wr.heap.size ∧ Hid (IsQ wr p (.slice none 0 0) []) ∧ Hid (Below p w wr) ∧ Hid (OffRow wr (.slice s j c) (wants (z0.take j))) ∧ Hid (Low (p + 1) (fun k => (Value.slice s j c).ownBlock = some k))) (fun _ i _ => (l - (RowKit.intOf i).toNat))
  case atStart => exact ⟨none, 0, 0, rfl, rfl, by omega, hlt, hQ1, hB1, Lib.hid (offrow_nil _), Lib.hid (low_nil _)⟩
  case round =>
    obtain ⟨s, c, j, rfl, rfl, j1, hlt2, hQ, hB, hR, hLo⟩ := hrel
    clear hQ1 hB1 hlt
    by_cases hj : j < l
    · have i2 : (j : Int) < (l : Int) := by omega
      have i0 : (0 : Int) ≤ (j : Int) := by omega
      obtain ⟨b, off, rfl, k1⟩ := hcell.out wr (by rw [hp0.out]; exact hB.out) j hj
      have hmore := wants_more (z := z0) (i := j) (by have := hz0.out; omega)
      obtain ⟨Y, hY⟩ : ∃ Y : Int, IntKind.u64.wrap (z0.getD j 0) = Y := ⟨_, rfl⟩
      have y0 : 0 ≤ Y := by rw [← hY, IntKind.wrap_u64]; omega
      obtain ⟨y, hy⟩ : ∃ y : Nat, Y % 10 = (y : Int) := ⟨(Y % 10).toNat, by omega⟩
      have y9 : y ≤ 9 := by omega
      rw [hY, hy] at hmore
      have hR2 := Lib.hid (off_below hR.out (below_alloc (Below.refl _ _) (.cells #[.int .i64 (y : Int)] 3)))
      have hwl : (wants (z0.take j)).length + 1 ≤ 1000000 := by rw [wants_len, List.length_take]; omega
      have hlo2 : p + 1 ≤ (wr.alloc (.cells #[.int .i64 (y : Int)] 3)).heap.size := by show _ ≤ (wr.heap.push _).size; rw [Array.size_push]; omega
      have hnx : Hid (∀ v3 w3, OffRow w3 v3 (wants (z0.take j) ++ [(y : Int)]) → Below (p + 1) (wr.alloc (.cells #[.int .i64 (y : Int)] 3)) w3 → (∃ s c, v3 = .slice s (j + 1) c) ∧ p < w3.heap.size ∧ Hid (IsQ w3 p (.slice none 0 0) []) ∧ Hid (Below p w w3) ∧ Hid (OffRow w3 v3 (wants (z0.take (j + 1))))) := fun v3 w3 h1 h2 => by
        have hsz := h2.size
        have h0 := below_alloc (Below.refl wr.heap.size wr) (.cells #[.int .i64 (y : Int)] 3)
        have hq := hQ.out.below h0
        refine ⟨off_slice h1 (by rw [List.length_append, wants_len, List.length_take, List.length_singleton]; have := hz0.out; omega), Nat.lt_of_lt_of_le hlo2 hsz, ?_, (hB.out.trans (h0.mono (by omega))).trans (h2.mono (by omega)), by rw [hmore]; exact h1⟩
        exact hq.wrote (H := fun k => p + 1 ≤ k) (H' := fun k => p + 1 ≤ k) ⟨h2.os, h2.tape, h2.output, h2.size, fun k _ hk => h2.block k (by omega), fun k hk => Or.inl hk⟩ (fun k hk h' => by have := home_nil hk; omega)
      clear hR hQ hB hmore
      have hYh := Lib.hid hY
      generalize z0.getD j 0 = z at *
      go_wp2_with (at_builtin; refine wpList_append_low rfl (.tmp 31) (.tmp 39) rfl rfl (p + 1) hR2.out hLo.out hlo2 rfl rfl (src_one wr (y : Int)) hwl ?_; intro v3 w3 hR3 hLo3 hB3; have hk := hnx.out v3 w3 hR3 hB3; obtain ⟨⟨s3, c3, rfl⟩, hlt4, hQ3, hBw3, hR4⟩ := hk; replace hLo3 := Lib.hid hLo3; clear hnx hB3 hR2 hLo hR3)
      go_roundw
      case rel => exact ⟨s3, c3, j + 1, rfl, by go_num, by omega, hlt4, hQ3, hBw3, hR4, hLo3⟩
      case measure => simp [RowKit.intOf]; omega
    · obtain rfl : j = l := by omega
      have hWl : (wants (z0.take j)).length = j := by rw [wants_len, List.length_take]; have := hz0.out; omega
      have hcl : j ≤ c := by
        obtain ⟨ao, b, off, cap', e, hle, _⟩ := hR.out.cell
        injection e with e1 e2 e3
        omega
      obtain ⟨W, hWe⟩ : ∃ W, wants (z0.take j) = W := ⟨_, rfl⟩
      rw [hWe] at hR hWl
      have cp := put_any wr hQ.out hR.out.ints (by rw [hWl]; show 0 + j ≤ _; omega)
      have hW2 : Hid (∀ w2 v2, Wrote (home p (.slice none 0 0)) wr (home p v2) w2 → Ints w2 (fun k => ¬ home p v2 k) (.slice s j c) W) := fun w2 v2 h => by
        have h1 : Ints wr (fun k => k ≠ p ∧ k < wr.heap.size) (.slice s j c) W := hR.out.ints.wider (fun k hk hl => ⟨fun e => by have := hLo.out k hk; omega, hl⟩)
        have h2 := h1.wrote h (fun k hk h' => hk.1 (home_nil h'))
        exact h2.wider (fun k hk _ h' => (h.home k h').elim (fun h3 => hk.1 (home_nil h3)) (fun h3 => by have := hk.2; omega))
      have hB2 : Hid (∀ w2 v2, Wrote (home p (.slice none 0 0)) wr (home p v2) w2 → Below p w w2) := fun w2 v2 h => by
        have := hB.out
        rw [← hp0.out] at this ⊢
        exact h.below (fun k hk => by rw [home_nil hk, hp0.out]; exact Nat.le_refl _) this
      obtain ⟨X, hX⟩ : ∃ X : Int, IntKind.u64.wrap a1 = X := ⟨_, rfl⟩
      have x0 : 0 ≤ X := by rw [← hX, IntKind.wrap_u64]; omega
      obtain ⟨x, hx⟩ : ∃ x : Nat, X % 11 = (x : Int) := ⟨(X % 11).toNat, by omega⟩
      have x1 : x ≤ 10 := by omega
      have hWl2 := Lib.hid hWl
      clear hR hLo hQ hB hWe hWl j1
      go_wp2_with fail
      with_reducible refine Calls.mono (cp) ?_
      rintro e w2 ⟨rfl, v2, ht2, hQ2⟩
      have hQ2 : IsQ w2 p v2 W := hQ2
      have hI2 := hW2.out w2 v2 ht2
      have hBw2 := Lib.hid (hB2.out w2 v2 ht2)
      have hlow2 : Hid (Low p (home p v2)) := fun k hk => (ht2.home k hk).elim (fun h => by rw [home_nil h]; exact Nat.le_refl _) (fun h => by omega)
      clear cp hW2 hB2 ht2
      have co : Hid (∃ (R : List Int) (was : Bool), R.length ≤ j ∧ Hid (Calls Try.prog 35 #[.slice s j c, .int .i64 (x : Int)] w2 fun e w' => ∃ v', e = .returned (.tuple #[v', .bool was]) ∧ Below w2.heap.size w2 w' ∧ Ints w' (fun k => ¬ home p v2 k) v' R) ∧
          Hid (∀ W', IsQ W' p v2 W → Calls Try.prog 52 #[.pointer (some ⟨p, 0, none⟩), .int .i64 (x : Int)] W' fun e w' => e = .returned (.bool was) ∧ ∃ v', Wrote (home p v2) W' (home p v') w' ∧ IsQ w' p v' R)) := by
        by_cases hxm : (x : Int) ∈ W
        · obtain ⟨A, B, rfl, hno⟩ := first_of hxm
          have hl2 : (A ++ (x : Int) :: B).length = A.length + B.length + 1 := by rw [List.length_append, List.length_cons]; omega
          have := hWl2.out
          refine ⟨A ++ B, true, by rw [List.length_append]; omega, (out_some hI2 hno (by omega) hcl (by omega)).mono fun e w' ⟨v', he, h1, h2, h3⟩ => ⟨v', he, h3, h1.ints.wider (fun k hk _ h' => by have := h2 k hk; have := hQ2.home_lt h'; omega)⟩, fun W' hq => del_some hq hno (by omega)⟩
        · refine ⟨W, false, by have := hWl2.out; omega, (out_not hI2 hxm).mono fun e w' ⟨he, hw⟩ => ⟨.slice s j c, he, by rw [← hw]; exact Below.refl _ _, by rw [← hw]; exact hI2⟩, fun W' hq => (del_none hq hxm).mono fun e w' ⟨he, hw⟩ => ⟨he, v2, by rw [← hw]; exact Wrote.refl _ _, by rw [← hw]; exact hq⟩⟩
      obtain ⟨R, was, hRj, co, cd⟩ := co.out
      have co2 := co.out
      clear hI2 hWl2 co
      go_wp2_with fail
      clear hX x0 hx
      with_reducible refine Calls.mono co2 ?_
      rintro e w3 ⟨v3, rfl, hb3, hI3⟩
      have hQ3 := hQ2.below hb3
      have hBw3 : Hid (Below p w w3) := hBw2.out.trans (hb3.mono (by have := hQ2.lt; omega))
      have cd3 := cd.out w3 hQ3
      have hI3h := Lib.hid hI3
      have hQ3h := Lib.hid hQ3
      obtain ⟨s3, c3, rfl, _⟩ := hI3
      clear co2 cd hb3 hQ2 hQ3 hBw2 hcl
      go_wp2_with fail
      with_reducible refine Calls.mono (cd3) ?_
      rintro e w4 ⟨rfl, v4, ht4, hQ4⟩
      have hp4 : p < w4.heap.size := hQ4.lt
      have hBw4 : Hid (Below p w w4) := hBw3.out.trans (below_of_wrote ht4 hlow2.out (by have := hQ3h.out.lt; omega))
      have hI4 : Hid (Ints w4 (fun k => k ≠ p ∧ k < w4.heap.size) (.slice s3 R.length c3) R) :=
        (hI3h.out.wrote ht4 (fun k hk h' => hk h')).wider (fun k hk hl => ⟨fun e => hk (Or.inl e), hl⟩)
      have hH4 : Hid (∀ k, home p v4 k → k < w4.heap.size) := fun k hk => hQ4.home_lt hk
      obtain ⟨r, hr⟩ : ∃ r, R.length = r := ⟨_, rfl⟩
      have hr2 := Lib.hid hr
      rw [hr] at hI4 hRj
      have ca := all_any w4 hQ4 (by omega)
      rw [hr] at ca ⊢
      have hr60 : r ≤ 60 := by omega
      have hQ4h := Lib.hid hQ4
      have hnx : Hid (∀ w5 r5, Below w4.heap.size w4 w5 → w5.ownsRow w4.heap.size 3 1 r5 r (cells R) → (∃ s5 c5, r5 = .slice s5 r c5) ∧ Calls Try.prog 24 #[r5, .slice s3 r c3] w5 (Ans (.bool true) w5) ∧ (∀ n, Hid (IsQ (w5.drewN n) p v4 R) ∧ Hid (Ints (w5.drewN n) (fun k => k ≠ p ∧ k < w4.heap.size) (.slice s3 r c3) R) ∧ Hid (Below p w (w5.drewN n)) ∧ w4.heap.size ≤ (w5.drewN n).heap.size)) := fun w5 r5 hb ho => by
        obtain ⟨s5, c5, e5⟩ := own_slice ho
        refine ⟨⟨s5, c5, e5⟩, ints_any (ints_of_owns ho) (hI4.out.below hb), fun n => ?_⟩
        have hb2 : Below w4.heap.size w4 (w5.drewN n) := below_drewN hb n
        exact ⟨hQ4h.out.below hb2, hI4.out.below hb2, hBw4.out.trans (hb2.mono (by omega)), hb2.size⟩
      clear hI3h hQ3h hlow2 hBw3 ht4 hQ4 hQ4h cd3 hBw4 hI4
      have hlo : Hid (∃ lo, lo = w4.heap.size) := ⟨_, rfl⟩
      go_wp2_with fail
      with_reducible refine Calls.mono (ca) ?_
      rintro e w5 ⟨r5, rfl, hb5, ho5⟩
      have hn5 := hnx.out w5 r5 hb5 ho5
      obtain ⟨⟨s5, c5, rfl⟩, ci, hn5⟩ := hn5
      clear ca hnx hb5 ho5
      generalize w4.heap.size = lo at *
      replace hn5 := Lib.hid hn5
      go_wp2_with fail
      with_reducible refine Calls.mono (ci) ?_
      rintro e w6 ⟨rfl, n6, rfl⟩
      have hn6 := hn5.out n6
      obtain ⟨hQ6, hI6, hB6, hs6⟩ := hn6
      clear ci hn5 hr hlo
      generalize w5.drewN n6 = w6 at *
      go_wp2_with fail
      go_loopw [11] (fun g wr => ∃ (s : Option Addr) (c t : Nat) (v : Value), g = .slice s t c ∧ t ≤ r ∧ lo ≤ wr.heap.size ∧ Hid (IsQ wr p v (R.drop t)) ∧ Hid (∀ k, home p v k → k < lo) ∧ Hid (OffRow wr (.slice s t c) (R.take t)) ∧ Hid (Low lo (fun k => (Value.slice s t c).ownBlock = some k)) ∧ Hid (Ints wr (fun k => k ≠ p ∧ k < lo) (.slice s3 r c3) R) ∧ Hid (Below p w wr)) (fun g _ => match g with | .slice _ n _ => r - n | _ => 0)
      case atStart => exact ⟨none, 0, 0, v4, rfl, by omega, hs6, hQ6, hH4, Lib.hid (offrow_nil _), Lib.hid (low_nil _), hI6, hB6⟩
      case round =>
        obtain ⟨s, c, t, v, rfl, t1, hs, hQ, hH, hR, hLo, hI, hB⟩ := hrel
        clear hQ6 hI6 hB6 hs6 hH4
        have cl := Qu.len_any wr hQ.out
        rw [List.length_drop, hr2.out] at cl
        obtain ⟨d, hd⟩ : ∃ d, r - t = d := ⟨_, rfl⟩
        rw [hd] at cl
        by_cases hd0 : 0 < d
        · have d0 : (0 : Int) < (d : Int) := by omega
          obtain ⟨n, hn⟩ : ∃ n, n = min (min (min (d / 3 + 1) 5) 128) d := ⟨_, rfl⟩
          have cg := get_gen wr hQ.out (ps := 3) (am := 5) (q := 3) (m := 5) (n := n) rfl rfl (by omega) (by omega) (by omega) (by rw [List.length_drop, hr2.out]; omega) (by rw [List.length_drop, hr2.out, hd]; exact hn)
          have n1 : 0 < n := by omega
          have n2 : t + n ≤ r := by omega
          have hpl : p < lo := hH.out p (Or.inl rfl)
          have hnx : Hid (∀ w2 v' rv, Wrote (fun k => k = p) wr (fun k => k = p) w2 → (∀ k, v'.ownBlock = some k → v.ownBlock = some k) → IsQ w2 p v' ((R.drop t).drop n) → w2.ownsRow wr.heap.size 3 1 rv n (cells ((R.drop t).take n)) → lo ≤ w2.heap.size ∧ OffRow w2 (.slice s t c) (R.take t) ∧ (∃ s c, rv = .slice s n c) ∧ Hid (Src Try.prog 1 26 rv ((R.drop t).take n).length (cells ((R.drop t).take n)) w2) ∧
              Hid (∀ v3 w3, OffRow w3 v3 (R.take t ++ (R.drop t).take n) → Low lo (fun k => v3.ownBlock = some k) → Below lo w2 w3 → (∃ s c, v3 = .slice s (t + n) c) ∧ lo ≤ w3.heap.size ∧ Hid (IsQ w3 p v' (R.drop (t + n))) ∧ Hid (∀ k, home p v' k → k < lo) ∧ Hid (OffRow w3 v3 (R.take (t + n))) ∧ Hid (Ints w3 (fun k => k ≠ p ∧ k < lo) (.slice s3 r c3) R) ∧ Hid (Below p w w3))) := fun w2 v' rv hw ho hq hrow => by
            have hH' : ∀ k, home p v' k → k < lo := fun k hk => hH.out k (hk.elim Or.inl (fun e => Or.inr (ho k e)))
            have hoR := hR.out.wrote hw (fun k hk e => by have := hLo.out k hk; omega)
            have hl2 : ((R.drop t).take n).length = n := by rw [List.length_take, List.length_drop, hr2.out]; omega
            refine ⟨Nat.le_trans hs hw.size, hoR, (by obtain ⟨a, b, e⟩ := own_slice hrow; exact ⟨a, b, e⟩), src_of_ints (ints_of_owns hrow), fun v3 w3 h1 h2 h3 => ?_⟩
            have e1 : R.take t ++ (R.drop t).take n = R.take (t + n) := by rw [List.take_add]
            have hwr3 : Wrote (fun k => lo ≤ k) w2 (fun k => lo ≤ k) w3 := ⟨h3.os, h3.tape, h3.output, h3.size, fun k _ hk => h3.block k (by omega), fun k hk => Or.inl hk⟩
            rw [e1] at h1
            refine ⟨off_slice h1 (by rw [List.length_take, hr2.out]; omega), Nat.le_trans (Nat.le_trans hs hw.size) h3.size, ?_, hH', h1, ?_, ?_⟩
            · show IsQ w3 p v' (R.drop (t + n))
              rw [← List.drop_drop]
              exact hq.wrote hwr3 (fun k hk h' => by have := hH' k hk; omega)
            · exact (hI.out.wrote hw (fun k hk e => hk.1 e)).wrote hwr3 (fun k hk h' => by have := hk.2; omega)
            · have hB1 := hB.out
              exact (hB1.trans (below_of_wrote hw (fun k hk => by rw [show k = p from hk]; exact Nat.le_refl _) (by omega))).trans (h3.mono (by omega))
          have hlb : (R.take t).length + ((R.drop t).take n).length ≤ 1000000 := by rw [List.length_take, List.length_take, List.length_drop, hr2.out]; omega
          have hn100 : (t : Int) + (n : Int) ≤ 100 := by omega
          clear hQ hR hI hB hH hn
          go_wp2_with fail
          with_reducible refine Calls.mono (cl) ?_
          rintro e w2 ⟨rfl, rfl⟩
          clear cl
          go_wp2_with fail
          with_reducible refine Calls.mono (cg) ?_
          rintro e w2 ⟨rv, v', rfl, _, hq, hrow, hw, ho⟩
          have hn2 := hnx.out w2 v' rv hw ho hq hrow
          obtain ⟨hs2, hR2, ⟨s2, c2, rfl⟩, hsrc, hnx2⟩ := hn2
          replace hR2 := Lib.hid hR2
          clear cg hnx hq hrow hw ho hd
          go_wp2_with (at_builtin; refine wpList_append_low rfl (.tmp 69) (.tmp 71) rfl rfl lo hR2.out hLo.out hs2 rfl rfl hsrc.out hlb ?_; intro v3 w3 h1 h2 h3; have hk := hnx2.out v3 w3 h1 h2 h3; obtain ⟨⟨s4, c4, rfl⟩, hs3, hQ3, hH3, hR3, hI3, hB3⟩ := hk; replace h2 := Lib.hid h2; clear h1 h3 hnx2 hR2 hLo hsrc)
          go_roundw
          case rel => exact ⟨s4, c4, t + n, v', rfl, n2, hs3, hQ3, hH3, hR3, h2, hI3, hB3⟩
          case measure =>
            show r - (t + n) < r - t
            omega
        · obtain rfl : d = 0 := by omega
          obtain rfl : t = r := by omega
          have hnx : Hid (∀ w2, Below wr.heap.size wr w2 → Hid (Below p w w2) ∧ Calls Try.prog 24 #[.slice s t c, .slice s3 t c3] w2 (Ans (.bool true) w2) ∧ (∀ k, Hid (Below p w (w2.drewN k)) ∧ Calls Try.prog 55 #[.pointer (some ⟨p, 0, none⟩), .int .i64 1, .int .i64 (-1)] (w2.drewN k) fun e w' => ∃ s c, e = .returned (.slice s 0 c) ∧ Hid (Below p w w'))) := fun w2 hb => by
            have hpl : p < lo := hH.out p (Or.inl rfl)
            have hB2 : Below p w w2 := hB.out.trans (hb.mono (by omega))
            have hI1 := (hR.out.ints).below hb
            rw [← hr2.out, List.take_length] at hI1
            rw [hr2.out] at hI1
            refine ⟨hB2, ints_any hI1 (hI.out.below hb), fun k => ⟨below_drewN hB2 k, ?_⟩⟩
            have hQk := (hQ.out.below hb).below (below_drewN (Below.refl _ _) k)
            refine (get_gen (w2.drewN k) hQk (ps := 1) (am := -1) (q := 1) (m := 0) (n := 0) rfl rfl (by omega) (by omega) (by omega) (by rw [List.length_drop, hr2.out]; omega) (by simp)).mono fun e w' ⟨rv, v', he, _, _, hrow, hw, _⟩ => ?_
            obtain ⟨a, b, e2⟩ := own_slice hrow
            exact ⟨a, b, by rw [he, e2], (below_drewN hB2 k).trans (below_of_wrote hw (fun k hk => by rw [show k = p from hk]; exact Nat.le_refl _) (by have := hb.size; show p ≤ w2.heap.size; omega))⟩
          clear hQ hR hI hB hH hLo hr2 hd
          go_wp2_with fail
          with_reducible refine Calls.mono (cl) ?_
          rintro e w2 ⟨rfl, rfl⟩
          clear cl
          go_wp2_with fail
          with_reducible refine Calls.mono (ct _) ?_
          rintro e w2 ⟨rfl, hb2⟩
          have hn2 := hnx.out w2 hb2
          obtain ⟨_, ci, hn2⟩ := hn2
          replace hn2 := Lib.hid hn2
          clear hnx hb2
          go_wp2_with fail
          with_reducible refine Calls.mono (ci) ?_
          rintro e w3 ⟨rfl, k, rfl⟩
          have hn3 := hn2.out k
          obtain ⟨_, cg⟩ := hn3
          clear ci hn2
          generalize w2.drewN k = w3 at *
          go_wp2_with fail
          with_reducible refine Calls.mono (cg) ?_
          rintro e w4 ⟨s4, c4, rfl, hB4⟩
          clear cg
          go_wp2_with fail
          with_reducible refine Calls.mono (Qu.len_nil _) ?_
          rintro e w5 ⟨rfl, rfl⟩
          go_wp2_with fail
          with_reducible refine Calls.mono (Qu.get_nil _ _ _) ?_
          rintro e w5 ⟨rfl, rfl⟩
          go_wp2_with fail
          with_reducible refine Calls.mono (del_nil _ _) ?_
          rintro e w5 ⟨rfl, rfl⟩
          go_wp2_with fail
          go_ret
          exact ⟨rfl, by rw [hp0.out]; exact hB4.out⟩

set_option maxRecDepth 100000 in
theorem lifted (os : Os) (started : os.Started) (H : Type) (enc : TypeId × Value → H) :
    ReturnsInHanded {} Try.checked os 12 .any (Rows.queueDelsSpec.pre6 enc Try.prog Try.f12 Rows.queueDelsRow.domain false) (Rows.queueDelsSpec.post enc Try.prog Try.f12 false true false false) := by
  refine returnsInHanded_of_change (C := Try.checked) own started (by kernel_rfl) Try.func12
    (ChangeSpec.witness6 (enc := enc) (C := Try.checked) false ⟨#[], #[.slice none 0 0, .int .i64 0], []⟩ 8 (by kernel_rfl) (by kernel_rfl) (by kernel_rfl) (by kernel_rfl)) ?_
  intro W base args ds gs before hval0 hW hcnd _
  have hval : ∀ (j : Nat) t v, Try.f12.params[j]? = some t → args[j]? = some v → Value.okWide Try.prog W .any base t v := hval0
  have hW' := hW
  obtain ⟨p, q, hA0, hV, rfl, hfz, hnd⟩ := hW
  have hA : DataW.TrodAll enc Try.prog W 0 (fun _ => true) true Try.f12.params.toList args.toList ds p := hA0
  rw [Try.params12] at hA hval
  obtain ⟨v0, vs0, d0, ds0, p0, q0, hargs, rfl, rfl, h0, r0⟩ := trodAll_cons hA
  obtain ⟨v1, vs1, d1, ds1, p1, q1, rfl, rfl, rfl, h1, r1⟩ := trodAll_cons r0
  obtain ⟨rfl, rfl, rfl⟩ := trodAll_nil r1
  obtain rfl : args = #[v0, v1] := by cases args; simp_all
  obtain ⟨rfl, rfl⟩ := trodVars_none hV
  obtain ⟨z0, i0⟩ := arg_ints (hval 0 26 v0 rfl rfl) h0
  obtain ⟨a1, rfl, rfl, rfl, w1⟩ := open_int Try.underlying3 (hval 1 3 v1 rfl rfl) h1
  clear hA0 hval0
  simp only [List.append_nil] at hW'
  have lt0 : ∀ x ∈ p0, x.block < W.heap.size := fun x hx => by have := hW'.lt x (by simp [hx]); simpa using this
  refine (walk v0 z0 a1 W i0 w1).mono fun e W' ⟨he, hg⟩ => ?_
  subst he
  exact ⟨_, rfl, post_of_kept (pa := _) (pv := []) hW' (fun _ _ _ => (trodAll_cons_mk (shut_bool Try.underlying4 _) trodAll_mk0)) (trodAll_cons_mk (Below.trod laidOut (by kernel_rfl) (of_decide_eq_true (by kernel_rfl)) h0 hg lt0) (trodAll_cons_mk (shut_int Try.underlying3 w1) trodAll_mk0)) (fun _ _ => rfl) (by simp) hg⟩

theorem over : Rows.queueDelsRow.holds Try.pinned (OpenSpec.ofChange Rows.queueDelsSpec) :=
  OpenClaim.holds_of_wide 12 Try.f12 rfl rfl rfl rfl rfl rfl rfl ⟨rfl, rfl, rfl, rfl, rfl⟩ rfl rfl rfl rfl rfl (by kernel_rfl) Try.func12 (by kernel_rfl)
    (of_decide_eq_true (by kernel_rfl)) (by unfold Func.isWrapper; first | (rw [if_pos (by decide +kernel)]; kernel_rfl) | (rw [if_neg (by decide +kernel)]; exact ⟨rfl, rfl⟩))
    (fun os started H enc _ => lifted os started H enc)

theorem proved : Rows.QueueDelsSaid :=
  over
#print axioms proved
end Go.Proofs.Ytgmcimhlkccfdaa.queueDels
