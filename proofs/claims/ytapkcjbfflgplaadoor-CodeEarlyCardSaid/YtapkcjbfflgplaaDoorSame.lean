/- The document's own comparison of two programs, where they hold the same. -/
import Derived.Test.YtapkcjbfflgplaaDoorGreat
namespace Go.Proofs.YtapkcjbfflgplaaDoor
open Go.RowKit Go.Lib Fx Ho Gr
set_option linter.unusedVariables false
namespace Cd
variable {w w' W wr : World} {v v2 fv : Value} {G nf len n : Int} {fs : List (List Ins)} {zs A : List Int} {l : List Ins}
set_option maxRecDepth 100000 in
set_option maxHeartbeats 4000000 in
theorem same_any (h : FRow w v fs) (h2 : FRow w v2 fs) (G : Int) : Calls Tryd.prog 39 #[.agg #[.int .i64 G, v], .agg #[.int .i64 G, v2]] w (AnsB (.bool true) w) := by
  obtain ⟨sp, cap, rfl, hat⟩ := h.fix
  obtain ⟨sq, caq, rfl, hau⟩ := h2.fix
  obtain ⟨m, hm⟩ : ∃ m, fs.length = m := ⟨_, rfl⟩
  have hat : Hid (∀ i, i < m → ∃ b off sv cp b2 off2 sv2 cp2, sp = some ⟨b, off, none⟩ ∧ sq = some ⟨b2, off2, none⟩ ∧ ∀ wr, Below w.heap.size w wr → wr.cell? ⟨b, off + i, none⟩ = some (.slice sv (fs.getD i []).length cp) ∧ IRow wr (.slice sv (fs.getD i []).length cp) (fs.getD i []) ∧ wr.cell? ⟨b2, off2 + i, none⟩ = some (.slice sv2 (fs.getD i []).length cp2) ∧ IRow wr (.slice sv2 (fs.getD i []).length cp2) (fs.getD i [])) := Lib.hid fun i hi => by
    obtain ⟨b, off, sv, cp, e, hv⟩ := hat i (by omega)
    obtain ⟨b2, off2, sv2, cp2, e2, hv2⟩ := hau i (by omega)
    exact ⟨b, off, sv, cp, b2, off2, sv2, cp2, e, e2, fun wr hb => ⟨(hv wr hb).1, (hv wr hb).2, (hv2 wr hb).1, (hv2 wr hb).2⟩⟩
  have hmb : m ≤ 9223372036854775807 := by obtain ⟨_, _, _, hb, _⟩ := h; omega
  clear h h2 hau
  rw [hm]
  clear hm
  have hb1 := below_alloc (Below.refl w.heap.size w) (.cells #[.int .i64 G, .slice sp m cap] 49)
  have k1 := heap_alloc_new w (.cells #[.int .i64 G, .slice sp m cap] 49)
  have k2 := heap_alloc_new (w.alloc (.cells #[.int .i64 G, .slice sp m cap] 49)) (.cells #[.int .i64 G, .slice sq m caq] 49)
  rw [show (w.alloc (.cells #[.int .i64 G, .slice sp m cap] 49)).heap.size = w.heap.size + 1 by show (w.heap.push _).size = _; rw [Array.size_push]] at k2
  have k1 := ((below_alloc (Below.refl (w.alloc (.cells #[.int .i64 G, .slice sp m cap] 49)).heap.size (w.alloc (.cells #[.int .i64 G, .slice sp m cap] 49))) (.cells #[.int .i64 G, .slice sq m caq] 49)).block _ (block_lt k1)).trans k1
  have hbU := Lib.hid (below_alloc hb1 (.cells #[.int .i64 G, .slice sq m caq] 49))
  have c0 := cell_of k1 (j := 0) rfl
  have c1 := cell_of k1 (j := 1) rfl
  have d0 := cell_of k2 (j := 0) rfl
  have d1 := cell_of k2 (j := 1) rfl
  clear k1 k2 hb1
  obtain ⟨N, hN⟩ : ∃ N, w.heap.size = N := ⟨_, rfl⟩
  rw [hN] at c0 c1 d0 d1
  go_enter Tryd.func39, Tryd.ntmps39
  go_wp2_with fail
  obtain ⟨U, hU⟩ : ∃ U, (w.alloc (.cells #[.int .i64 G, .slice sp m cap] 49)).alloc (.cells #[.int .i64 G, .slice sq m caq] 49) = U := ⟨_, rfl⟩
  rw [hU] at hbU c0 c1 d0 d1 ⊢
  clear hU
  go_wp2_with fail
  have hP : Hid (∀ V, Below U.heap.size U V → V.cell? ⟨N, 1, none⟩ = some (.slice sp m cap) ∧ V.cell? ⟨N + 1, 1, none⟩ = some (.slice sq m caq)) := Lib.hid fun V hV => ⟨cell_then hV c1, cell_then hV d1⟩
  clear c0 c1 d0 d1 hN
  go_loopw [5, 6] (fun u5 u6 wr => ∃ i : Nat, u5 = .int .i64 i ∧ i ≤ m ∧ Hid (Below U.heap.size U wr)) (fun y _ _ => (m - (RowKit.intOf y).toNat))
  case atStart => exact ⟨0, rfl, by omega, Lib.hid (Below.refl _ _)⟩
  case round =>
    obtain ⟨i, rfl, im, hB⟩ := hrel
    have i0 : (0 : Int) ≤ (i : Int) := by omega
    have hbw := Lib.hid (hbU.out.trans (hB.out.mono hbU.out.size))
    obtain ⟨p1, r1⟩ := hP.out wr hB.out
    by_cases hi : i < m
    · have i1 : (i : Int) < (m : Int) := by omega
      have wi : IntKind.i64.wrap ((i : Int) + 1) = (i : Int) + 1 := by rw [IntKind.wrap_i64]; omega
      obtain ⟨b, off, sv, cp, b2, off2, sv2, cp2, rfl, rfl, hv⟩ := hat.out i hi
      obtain ⟨s1, s2, s3, s4⟩ := hv wr hbw.out
      have hlb : (fs.getD i []).length ≤ 9223372036854775807 := by obtain ⟨_, _, _, hb, _⟩ := s2; exact hb
      obtain ⟨l, hl⟩ : ∃ l, (fs.getD i []).length = l := ⟨_, rfl⟩
      rw [hl] at s1 s3 hlb
      replace hl := Lib.hid hl
      replace hv := Lib.hid hv
      clear s2 s4
      go_wp2_with fail
      go_quiet (fail)
      rename_i nq
      have hbq := below_drewN hB.out nq
      generalize wr.drewN nq = wq at *
      clear s1 s3 p1 r1 hB hbw
      go_wp2_with fail
      go_loopw [6] (fun u6 wx => ∃ j : Nat, u6 = .int .i64 j ∧ j ≤ l ∧ Hid (Below U.heap.size U wx)) (fun y _ => (l - (RowKit.intOf y).toNat))
      case atStart => exact ⟨0, rfl, by omega, Lib.hid hbq⟩
      case round =>
        clear hbq
        obtain ⟨j, rfl, jl, hB⟩ := hrel
        have j0 : (0 : Int) ≤ (j : Int) := by omega
        have hbw := Lib.hid (hbU.out.trans (hB.out.mono hbU.out.size))
        obtain ⟨p1, r1⟩ := hP.out wr hB.out
        obtain ⟨s1, s2, s3, s4⟩ := hv.out wr hbw.out
        rw [hl.out] at s1 s3
        by_cases hj : j < l
        · have j1 : (j : Int) < (l : Int) := by omega
          have wj : IntKind.i64.wrap ((j : Int) + 1) = (j : Int) + 1 := by rw [IntKind.wrap_i64]; omega
          obtain ⟨g, o, op, a, b', c, rfl, hins, q0, q1, q2, q3⟩ := s2.at_ wr (Below.refl _ _) j (by have := hl.out; omega)
          obtain ⟨g2, o2, op2, a2, b2', c2, rfl, hins2, t0, t1, t2, t3⟩ := s4.at_ wr (Below.refl _ _) j (by have := hl.out; omega)
          obtain ⟨rfl, rfl, rfl, rfl⟩ : op2 = op ∧ a2 = a ∧ b2' = b' ∧ c2 = c := by
            rw [hins] at hins2; cases hins2; exact ⟨rfl, rfl, rfl, rfl⟩
          clear hins hins2 s2 s4
          go_wp2_with fail
          go_quiet (fail)
          rename_i nq
          have hbq := Lib.hid (below_drewN hB.out nq)
          generalize wr.drewN nq = wq at *
          clear s1 s3 p1 r1 hB hbw q0 q1 q2 q3 t0 t1 t2 t3
          go_wp2_with fail
          go_roundw
          case rel => exact ⟨j + 1, by go_num, by omega, hbq⟩
          case measure => simp [RowKit.intOf]; omega
        · obtain rfl : j = l := by omega
          have j1 : ¬ (j : Int) < (j : Int) := by omega
          clear s2 s4
          go_wp2_with fail
          go_roundw
          case rel => exact ⟨i + 1, by go_num, by omega, hB⟩
          case measure => simp [RowKit.intOf]; omega
    · obtain rfl : i = m := by omega
      have i1 : ¬ (i : Int) < (i : Int) := by omega
      go_wp2_with fail
      go_ret
      exact ⟨rfl, hbw.out⟩
end Cd
end Go.Proofs.YtapkcjbfflgplaaDoor
