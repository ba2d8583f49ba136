/- The document's own jobs, as a row. -/
import Derived.Test.YtkpmifkdnndccaaRootsTold
import Derived.Test.YtkpmifkdnndccaaMinMax
namespace Go.Proofs.Ytkpmifkdnndccaa
open Go.RowKit Go.Lib Fx Ho Gr Qu Rw
set_option linter.unusedVariables false
namespace Ro
variable {w w' : World} {S : List Int}
/-- A row of jobs of the law's own, new since B. -/
structure JRow (B : Nat) (w : World) (v : Value) (L : List Job) : Prop where
  row : GRow 3 w v L.length (jcells L)
  low : Low B (fun k => v.ownBlock = some k)
theorem jrow_nil (B : Nat) (w : World) : JRow B w (.slice none 0 0) [] := ⟨grow_nil 3 w, low_nil B⟩
theorem JRow.below {B : Nat} {v : Value} {L : List Job} (h : JRow B w v L) (hb : Below w.heap.size w w') : JRow B w' v L := ⟨h.row.below hb, h.low⟩
theorem JRow.slice {B : Nat} {v : Value} {L : List Job} (h : JRow B w v L) : ∃ s c, v = .slice s L.length c := h.row.slice
/-- One job more, in a block that was made for it. -/
theorem JRow.more {B : Nat} {v v1 : Value} {w1 w2 : World} {L : List Job} {j : Job} (h : JRow B w v L) (hB : B ≤ w.heap.size) (hb : Below w.heap.size w w1) (hg : GRow 3 w2 v1 (L.length + 1) (jcells L ++ jcells [j])) (hw : Wrote (fun k => v.ownBlock = some k) w1 (fun k => v1.ownBlock = some k) w2) : JRow B w2 v1 (L ++ [j]) ∧ Below B w w2 :=
  ⟨⟨by rw [List.length_append, List.length_singleton, jcells_app]; exact hg, hw.low h.low (Nat.le_trans hB hb.size)⟩, (hb.mono hB).trans (below_of_wrote hw h.low (Nat.le_trans hB hb.size))⟩
theorem srcJ (w : World) (a b c : Int) : Src Try.prog 3 27 (.slice (some ⟨w.heap.size, 0, none⟩) 1 1) 1 (jcells [(a, b, c)]) (w.alloc (.cells #[.int .i64 a, .int .i64 b, .int .i64 c] 32)) := src_new (s := 3) (A := #[.int .i64 a, .int .i64 b, .int .i64 c]) Try.underlying27 rfl (by simp [Value.oneCell']) (heap_alloc_new _ _)
set_option maxRecDepth 100000 in
set_option maxHeartbeats 2000000 in
theorem rjobs_any {n t : Int} {v : Value} {B : Home} (h : Ints w B v S) (hs : S.length ≤ 1000) (hn : max n 0 = t) (ht : t ≤ 1000) : Calls Try.prog 18 #[.int .i64 n, v] w fun e w' => ∃ v', e = .returned v' ∧ JRow w.heap.size w' v' (gjobs t ++ sj S) ∧ Below w.heap.size w w' := by
  obtain ⟨sp, cap, rfl, hm, hc⟩ := h
  obtain ⟨m, hme⟩ : ∃ m, S.length = m := ⟨_, rfl⟩
  have hcell : Hid (∀ wr, Below w.heap.size w wr → ∀ i, i < m → ∃ b off, sp = some ⟨b, off, none⟩ ∧ wr.cell? ⟨b, off + i, none⟩ = some (.int .i64 (S.getD i 0))) := Lib.hid fun wr hb i hi => by
    obtain ⟨b, off, e, _, _, h5⟩ := hc i (by omega)
    exact ⟨b, off, e, cell_then hb h5⟩
  have htk : Hid (∀ i, i < m → sj (S.take i) ++ [(S.getD i 0, 0, 16)] = sj (S.take (i + 1))) := Lib.hid fun i hi => by
    rw [tk_more (by omega)]; unfold sj; rw [List.map_append]; rfl
  have hfull : Hid (S.take m = S) := Lib.hid (by rw [← hme]; exact List.take_length)
  have hsl : Hid (∀ i, (sj (S.take i)).length ≤ i) := Lib.hid fun i => by unfold sj; rw [List.length_map, List.length_take]; omega
  have hm2 : m ≤ 1000 := by omega
  rw [hme] at hm ⊢
  clear hc hme hs
  have hcb := cnt_bd (n := t) (by omega) (by omega)
  have hst : Hid (∃ (J : List Job) (c : Nat), JRow w.heap.size w (.slice none 0 0) J ∧ J.length = 0 ∧ cntJ (t - min (8 * ((0 : Nat) : Int)) t) = (c : Int) ∧ J ++ gj t c (min (8 * ((0 : Nat) : Int)) t) = gjobs t) := Lib.hid ⟨[], (cntJ t).toNat, jrow_nil _ _, rfl, by rw [show t - min (8 * ((0 : Nat) : Int)) t = t by omega]; omega, by rw [show min (8 * ((0 : Nat) : Int)) t = 0 by omega]; rfl⟩
  have htn : (0 < n → t = n) ∧ (n ≤ 0 → t = 0) := by omega
  go_enter Try.func18, Try.ntmps18
  go_wp2_with fail
  clear hn
  go_loopw [5, 6] (fun v y wr => ∃ (q jl : Nat) (s : Option Addr) (k : Nat), v = .slice s jl k ∧ y = .int .i64 (8 * (q : Int)) ∧ q ≤ 1000 ∧ Hid (Below w.heap.size w wr) ∧ Hid (∃ (J : List Job) (c : Nat), JRow w.heap.size wr (.slice s jl k) J ∧ J.length = q ∧ cntJ (t - min (8 * (q : Int)) t) = (c : Int) ∧ J ++ gj t c (min (8 * (q : Int)) t) = gjobs t)) (fun _ y _ => (n - RowKit.intOf y).toNat)
  case atStart => exact ⟨0, 0, none, 0, rfl, rfl, by omega, Lib.hid (Below.refl _ _), hst⟩
  case round =>
    clear hst
    obtain ⟨q, jl, s, k, rfl, rfl, q1, hB, hJ⟩ := hrel
    by_cases hq : 8 * (q : Int) < n
    · obtain ⟨J, c, hJr, hJl, hc, hJe⟩ := hJ.out
      have hct : t = n := htn.1 (by omega)
      rw [show min (8 * (q : Int)) t = 8 * (q : Int) by omega] at hc hJe
      obtain ⟨c, rfl⟩ : ∃ c', c = c' + 1 := ⟨c - 1, by unfold cntJ at hc; omega⟩
      obtain ⟨e1, e2, e3⟩ := cnt_step (n := t - 8 * (q : Int)) (by omega) hc
      obtain ⟨x, hx⟩ : ∃ x, min (8 * (q : Int) + 8) n = x := ⟨_, rfl⟩
      have r1 := @run_min2 Try.prog _ _ _ hx
      have hxe : 8 * (q : Int) + min (t - 8 * (q : Int)) 8 = x := by omega
      have hjl : jl = J.length := by
        obtain ⟨s', c', e⟩ := hJr.slice
        cases e; rfl
      subst hjl
      have hb1 := below_alloc (Below.refl _ wr) (.cells #[.int .i64 (-1), .int .i64 (8 * (q : Int)), .int .i64 x] 32)
      have hrow := Lib.hid (hJr.below hb1).row
      have hsrc := Lib.hid (srcJ wr (-1) (8 * (q : Int)) x)
      have hbd : J.length + 1 ≤ 1000000 := by omega
      have key : Hid (∀ v3 w3, GRow 3 w3 v3 (J.length + 1) (jcells J ++ jcells [(-1, 8 * (q : Int), x)]) → Wrote (fun k' => (Value.slice s J.length k).ownBlock = some k') (wr.alloc (.cells #[.int .i64 (-1), .int .i64 (8 * (q : Int)), .int .i64 x] 32)) (fun k' => v3.ownBlock = some k') w3 → (∃ s3 c3, v3 = .slice s3 (J.length + 1) c3) ∧ Hid (Below w.heap.size w w3) ∧ Hid (∃ (J : List Job) (c : Nat), JRow w.heap.size w3 v3 J ∧ J.length = q + 1 ∧ cntJ (t - min (8 * ((q + 1 : Nat) : Int)) t) = (c : Int) ∧ J ++ gj t c (min (8 * ((q + 1 : Nat) : Int)) t) = gjobs t)) := Lib.hid fun v3 w3 g1 g2 => by
        obtain ⟨k1, k2⟩ := hJr.more (hB.out.size) hb1 g1 g2
        refine ⟨g1.slice, Lib.hid (hB.out.trans k2), Lib.hid ⟨_, c, k1, by rw [List.length_append, List.length_singleton, hJl], ?_, ?_⟩⟩
        · rw [← e2]; congr 1; omega
        · rw [show min (8 * ((q + 1 : Nat) : Int)) t = x by omega, ← hJe, List.append_assoc]
          show J ++ ([(-1, 8 * (q : Int), x)] ++ gj t c x) = J ++ (-1, 8 * (q : Int), 8 * (q : Int) + min (t - 8 * (q : Int)) 8) :: gj t c (8 * (q : Int) + min (t - 8 * (q : Int)) 8)
          rw [hxe]; rfl
      have hq8 : 8 * (q : Int) ≤ 1000 := by omega
      clear hJ hJr hJl hc hJe e1 e2 e3 hxe hB hb1
      replace hx := Lib.hid hx
      replace htn := Lib.hid htn
      replace hct := Lib.hid hct
      go_wp2_with (at_builtin; refine wpList_append_g rfl (.tmp 13) (.tmp 20) rfl rfl eltJ hrow.out rfl rfl hsrc.out hbd ?_; intro v3 w3 g1 g2; have hk := key.out v3 w3 g1 g2; obtain ⟨⟨s3, c3, rfl⟩, hB, hJ⟩ := hk; clear key g1 g2 hrow hsrc)
      go_roundw
      case rel => exact ⟨q + 1, _, s3, c3, rfl, by go_num, by have := hct.out; omega, hB, hJ⟩
      case measure => simp [RowKit.intOf]; omega
    · obtain ⟨J, c, hJr, hJl, hc, hJe⟩ := hJ.out
      have hmin : min (8 * (q : Int)) t = t := by
        by_cases h : 0 < n
        · have := htn.1 h; omega
        · have := htn.2 (by omega); omega
      rw [hmin, show t - t = 0 by omega] at hc
      obtain rfl : c = 0 := by unfold cntJ at hc; omega
      have hJe2 : J = gjobs t := by rw [← hJe, hmin]; exact (List.append_nil _).symm
      subst hJe2
      have hjl : jl = (gjobs t).length := by
        obtain ⟨s', c', e⟩ := hJr.slice
        cases e; rfl
      have hJl2 : (gjobs t).length ≤ 1000 := by omega
      have hgl := Lib.hid hJl2
      have hst : Hid (JRow w.heap.size wr (.slice s jl k) (gjobs t ++ sj (S.take 0))) := Lib.hid (by rw [show gjobs t ++ sj (S.take 0) = gjobs t from List.append_nil _]; exact hJr)
      replace hjl := Lib.hid hjl
      clear hJ hJr hJl hc hJe hmin hJl2
      replace htn := Lib.hid htn
      go_wp2_with fail
      obtain ⟨W1, rfl⟩ : ∃ W1 : World, W1 = wr := ⟨_, rfl⟩
      go_loopw [5, 7] (fun v y wr => ∃ (i l : Nat) (s : Option Addr) (k : Nat), v = .slice s l k ∧ y = .int .i64 i ∧ i ≤ m ∧ Hid (Below w.heap.size w wr) ∧ Hid (JRow w.heap.size wr (.slice s l k) (gjobs t ++ sj (S.take i)))) (fun _ y _ => (m - (RowKit.intOf y).toNat))
      case atStart => exact ⟨0, _, s, k, rfl, rfl, by omega, hB, hst⟩
      case round =>
        clear hst hB
        obtain ⟨i, l, s, k, rfl, rfl, i1, hB, hJ⟩ := hrel
        by_cases hi : i < m
        · have i2 : (i : Int) < (m : Int) := by omega
          have i0 : (0 : Int) ≤ (i : Int) := by omega
          obtain ⟨b, off, rfl, c0⟩ := hcell.out wr hB.out i hi
          have hjl : l = (gjobs t ++ sj (S.take i)).length := by
            obtain ⟨s', c', e⟩ := hJ.out.slice
            cases e; rfl
          subst hjl
          have hb1 := below_alloc (Below.refl _ wr) (.cells #[.int .i64 (S.getD i 0), .int .i64 0, .int .i64 16] 32)
          have hrow := Lib.hid (hJ.out.below hb1).row
          have hsrc := Lib.hid (srcJ wr (S.getD i 0) 0 16)
          have hbd : (gjobs t ++ sj (S.take i)).length + 1 ≤ 1000000 := by rw [List.length_append]; have := hsl.out i; have := hgl.out; omega
          have key : Hid (∀ v3 w3, GRow 3 w3 v3 ((gjobs t ++ sj (S.take i)).length + 1) (jcells (gjobs t ++ sj (S.take i)) ++ jcells [(S.getD i 0, 0, 16)]) → Wrote (fun k' => (Value.slice s (gjobs t ++ sj (S.take i)).length k).ownBlock = some k') (wr.alloc (.cells #[.int .i64 (S.getD i 0), .int .i64 0, .int .i64 16] 32)) (fun k' => v3.ownBlock = some k') w3 → (∃ s3 c3, v3 = .slice s3 ((gjobs t ++ sj (S.take i)).length + 1) c3) ∧ Hid (Below w.heap.size w w3) ∧ Hid (JRow w.heap.size w3 v3 (gjobs t ++ sj (S.take (i + 1))))) := Lib.hid fun v3 w3 g1 g2 => by
            obtain ⟨k1, k2⟩ := hJ.out.more (hB.out.size) hb1 g1 g2
            refine ⟨g1.slice, Lib.hid (hB.out.trans k2), Lib.hid ?_⟩
            rw [← htk.out i hi, ← List.append_assoc]; exact k1
          clear hJ hb1 hB
          generalize S.getD i 0 = x at *
          go_wp2_with (at_builtin; refine wpList_append_g rfl (.tmp 28) (.tmp 34) rfl rfl eltJ hrow.out rfl rfl hsrc.out hbd ?_; intro v3 w3 g1 g2; have hk := key.out v3 w3 g1 g2; obtain ⟨⟨s3, c3, rfl⟩, hB, hJ⟩ := hk; clear key g1 g2 hrow hsrc)
          go_roundw
          case rel => exact ⟨i + 1, _, s3, c3, rfl, by go_num, by omega, hB, by rw [List.length_append] at hJ; exact hJ⟩
          case measure => simp [RowKit.intOf]; omega
        · obtain rfl : i = m := by omega
          have i2 : ¬ ((i : Int) < (i : Int)) := by omega
          rw [hfull.out] at hJ
          go_wp2_with fail
          go_ret
          exact ⟨_, rfl, hJ.out, hB.out⟩
end Ro
end Go.Proofs.Ytkpmifkdnndccaa
