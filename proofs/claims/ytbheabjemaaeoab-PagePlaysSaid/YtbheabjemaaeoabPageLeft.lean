/- How many pages the runs of a heap have: what Left answers. -/
import Derived.Test.YtbheabjemaaeoabPageSort
namespace Go.Proofs.Ytbheabjemaaeoab
open Go.RowKit Go.Lib Fx Ho Gr
set_option linter.unusedVariables false
namespace Pg
variable {w w' W : World} {P b0 z n c i j k N : Nat} {v : Value} {L M : List Rn} {F : List Bool} {m : Int → Value}
def tot : List Rn → Int
  | [] => 0
  | r :: t => r.2.1 + tot t
theorem tot_app : ∀ (A B : List Rn), tot (A ++ B) = tot A + tot B
  | [], B => by simp [tot]
  | r :: t, B => by
    show r.2.1 + tot (t ++ B) = r.2.1 + tot t + tot B
    rw [tot_app t B]; omega
theorem tot_take (h : j < L.length) : tot (L.take (j + 1)) = tot (L.take j) + (L.getD j Rn.rn0).2.1 := by
  rw [List.take_succ_eq_append_getElem h, tot_app, List.getD_eq_getElem?_getD, List.getElem?_eq_getElem h]
  show _ + (_ + (0 : Int)) = _
  simp
theorem tot_bound (hx : Lx n L) (hn : n ≤ 270000) : ∀ j, j ≤ L.length → 0 ≤ tot (L.take j) ∧ tot (L.take j) ≤ (j : Int) * 270000
  | 0, _ => by simp [tot]
  | j + 1, hj => by
    have ih := tot_bound hx hn j (by omega)
    have hp := hx.pos _ (mem_at (L := L) (i := j) (by omega))
    rw [tot_take (by omega)]
    omega
set_option maxRecDepth 100000 in
set_option maxHeartbeats 1000000 in
theorem left_w (h : Pe w P v b0 z n c F L m) : Calls Try.prog 11 #[.pointer (some ⟨P, 0, none⟩)] w (Still (.int .i64 (tot L)) w) := by
  have hpl := h.pc.q.pile
  have hsm := hpl.small
  have hst : Hid (∀ j, j < L.length → tot (L.take (j + 1)) = tot (L.take j) + (L.getD j Rn.rn0).2.1) := Lib.hid fun j hj => tot_take hj
  have hbd : Hid (∀ j, j ≤ L.length → 0 ≤ tot (L.take j) ∧ tot (L.take j) ≤ (j : Int) * 270000) := Lib.hid (tot_bound h.lx h.nb)
  have hfull : Hid (tot (L.take L.length) = tot L) := Lib.hid (by rw [List.take_length])
  obtain ⟨s, cap, e⟩ := hpl.row.slice
  have hcell : Hid (∀ j, j < L.length → ∃ bb off, s = some ⟨bb, off, none⟩ ∧ w.cell? ⟨bb, off + j, none⟩ = some (.pointer (some ⟨(L.getD j Rn.rn0).2.2, 0, none⟩)) ∧ w.cell? ⟨(L.getD j Rn.rn0).2.2, 1, none⟩ = some (.int .i64 (L.getD j Rn.rn0).2.1) ∧ 0 ≤ (L.getD j Rn.rn0).2.1 ∧ (L.getD j Rn.rn0).2.1 ≤ 270000) := Lib.hid fun j hj => by
    obtain ⟨bb, off, cap', e', _, _, _, hc⟩ := hpl.place hj
    rw [e] at e'
    cases e'
    have hp := h.lx.pos _ (mem_at hj)
    have hn := h.nb
    exact ⟨bb, off, rfl, (hc j hj).1, (hpl.cells hj).2.1, by omega, by omega⟩
  subst e
  have c1 := h.pc.cs.2.1
  have t0 : tot (L.take 0) = 0 := by simp [tot]
  clear h hpl
  generalize L.length = l at *
  go_enter Try.func11, Try.ntmps11
  go_wp2_with fail
  go_loopw [3, 5, 13] (fun u x i wr => ∃ j : Nat, u = .int .i64 (tot (L.take j)) ∧ i = .int .i64 j ∧ j ≤ l ∧ wr = w) (fun _ _ i _ => (l - (RowKit.intOf i).toNat))
  case atStart => exact ⟨0, by rw [t0], rfl, by omega, rfl⟩
  case round =>
    obtain ⟨j, rfl, rfl, j1, rfl⟩ := hrel
    have hb := hbd.out j j1
    by_cases hj : j < l
    · have i2 : (j : Int) < (l : Int) := by omega
      have i0 : (0 : Int) ≤ (j : Int) := by omega
      have hb2 := hbd.out (j + 1) (by omega)
      have hs := hst.out j hj
      obtain ⟨bb, off, rfl, d0, d1, p0, p1⟩ := hcell.out j hj
      rw [hs] at hb2
      replace hs := Lib.hid hs
      clear hcell hst hbd hfull t0
      generalize tot (L.take j) = t at *
      generalize (L.getD j Rn.rn0).2.1 = p at *
      generalize (L.getD j Rn.rn0).2.2 = rb at *
      have z1 : IntKind.i64.wrap (t + p) = t + p := by rw [IntKind.wrap_i64]; omega
      go_wp2_with fail
      go_roundw
      case rel => exact ⟨j + 1, by rw [hs.out], by go_num, by omega, by first | rfl | trivial⟩
      case measure => simp [RowKit.intOf]; omega
    · obtain rfl : j = l := by omega
      have i2 : ¬ ((j : Int) < (j : Int)) := by omega
      rw [hfull.out]
      clear hcell hst hbd hfull t0
      go_wp2_with fail
      go_ret
      exact ⟨rfl, rfl⟩
end Pg
end Go.Proofs.Ytbheabjemaaeoab
