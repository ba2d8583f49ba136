/- A script's reader: the next byte, in its bounds, or the text's own panic. -/
import Derived.Test.YtapkcjbfflgplaaDoorMay3
import Derived.WalkLawsBesides
namespace Go.Proofs.YtapkcjbfflgplaaDoor
open Go.RowKit Go.Lib Fx Ho
set_option linter.unusedVariables false
namespace Cd
variable {w w' W : World} {v fv : Value} {G nf len n : Int} {fs : List (List Ins)} {R p : Nat} {zs : List Int}
/-- The slice v holds these bytes, in a block of S. -/
def BRow (w : World) (S : Nat → Prop) (v : Value) (zs : List Int) : Prop := ∃ sp cap, v = .slice sp zs.length cap ∧ zs.length ≤ 9223372036854775807 ∧ ∀ i, i < zs.length → ∃ b off, sp = some ⟨b, off, none⟩ ∧ S b ∧ b < w.heap.size ∧ w.cell? ⟨b, off + i, none⟩ = some (.int .u8 (zs.getD i 0)) ∧ 0 ≤ zs.getD i 0 ∧ zs.getD i 0 < 256
theorem BRow.wrote {H H' : Home} {S : Nat → Prop} (h : BRow w S v zs) (hw : Wrote H w H' w') (hn : ∀ k, S k → ¬ H k) : BRow w' S v zs := by
  obtain ⟨sp, cap, e, h1, h2⟩ := h
  refine ⟨sp, cap, e, h1, fun i hi => ?_⟩
  obtain ⟨b, off, e2, hb, hl, c0, c1⟩ := h2 i hi
  exact ⟨b, off, e2, hb, Nat.lt_of_lt_of_le hl hw.size, hw.cell c0 (hn b hb), c1⟩
/-- A reader at R, which stands at p. -/
structure Rd (w : World) (R : Nat) (v : Value) (zs : List Int) (p : Nat) : Prop where
  head : w.heap[R]? = some (.cells #[v, .int .i64 p] 109 (0, 0))
  row : BRow w (fun k => k < R) v zs
  le : p ≤ zs.length
theorem Rd.wrote {H H' : Home} (h : Rd w R v zs p) (hw : Wrote H w H' w') (hR : ¬ H R) (hn : ∀ k, H k → R ≤ k) : Rd w' R v zs p :=
  ⟨(hw.block R (block_lt h.head) hR).trans h.head, by
    obtain ⟨sp, cap, e, h1, h2⟩ := h.row
    refine ⟨sp, cap, e, h1, fun i hi => ?_⟩
    obtain ⟨b, off, e2, hb, hl, c0, c1⟩ := h2 i hi
    exact ⟨b, off, e2, hb, Nat.lt_of_lt_of_le hl hw.size, hw.cell c0 (fun hh => by have h1 : R ≤ b := hn b hh; have h2 : b < R := hb; omega), c1⟩, h.le⟩
theorem Rd.below (h : Rd w R v zs p) (hb : Below w.heap.size w w') : Rd w' R v zs p := h.wrote (H := fun _ => False) (Wrote.of_below hb) (fun h => h) (fun k h => h.elim)
theorem Rd.next (h : Rd w R v zs p) (hp : p < zs.length) : Rd (w.setCell ⟨R, 1, none⟩ (.int .i64 ((p : Int) + 1))) R v zs (p + 1) ∧ Wrote (fun k => k = R) w (fun k => k = R) (w.setCell ⟨R, 1, none⟩ (.int .i64 ((p : Int) + 1))) := by
  have hw : Wrote (fun k => k = R) w (fun k => k = R) (w.setCell ⟨R, 1, none⟩ (.int .i64 ((p : Int) + 1))) := wrote_setCell (a := ⟨R, 1, none⟩) rfl rfl rfl rfl rfl
  exact ⟨⟨by rw [heap_setCell_same _ R 1 _ _ _ h.head]; rfl, h.row.wrote hw (fun k hk e => by have h1 : k < R := hk; have h2 : k = R := e; omega), by omega⟩, hw⟩
theorem wrote_new {H H' : Home} {a b : World} {k : Nat} (h : Wrote H w H' a) (g : Wrote (fun j => j = k) a (fun j => j = k) b) (hk : w.heap.size ≤ k) : Wrote H w H' b :=
  ⟨g.os.trans h.os, g.tape.trans h.tape, g.output.trans h.output, Nat.le_trans h.size g.size, fun j hj hn => (g.block j (Nat.lt_of_lt_of_le hj h.size) (fun e => by have e : j = k := e; omega)).trans (h.block j hj hn), h.home⟩
/-- What reading a byte comes to: the number, or where it is wrong. -/
def num (zs : List Int) (p : Nat) (lo hi : Int) : Except Nat Int := if p < zs.length ∧ lo ≤ zs.getD p 0 ∧ zs.getD p 0 ≤ hi then .ok (zs.getD p 0) else .error p
def Panics (e : Ending) : Prop := ∃ v : TypeId × Value, e = .panicked [{ v := .iface v.1 v.2, recovered := false }]
def NumR (w : World) (R : Nat) (v : Value) (zs : List Int) (p : Nat) (lo hi : Int) (e : Ending) (w' : World) : Prop :=
  (∃ z : Int, num zs p lo hi = .ok z ∧ e = .returned (.int .i64 z) ∧ Rd w' R v zs (p + 1) ∧ Wrote (fun k => k = R) w (fun k => k = R) w') ∨
  (num zs p lo hi = .error p ∧ Panics e ∧ Rd w' R v zs p ∧ Wrote (fun k => k = R) w (fun k => k = R) w')
set_option maxRecDepth 100000 in
set_option maxHeartbeats 2000000 in
theorem number_any (h : Rd w R v zs p) (lo hi : Int) : Calls Tryd.prog 93 #[.pointer (some ⟨R, 0, none⟩), .int .i64 lo, .int .i64 hi] w (NumR w R v zs p lo hi) := by
  obtain ⟨sp, cap, rfl, hm, hc⟩ := id h.row
  have c0 : w.cell? ⟨R, 0, none⟩ = some (.slice sp zs.length cap) := cell_of h.head rfl
  have c1 : w.cell? ⟨R, 1, none⟩ = some (.int .i64 p) := cell_of h.head rfl
  have f1 : w.frozen? ⟨R, 1, none⟩ = false := frozen_of_row _ _ _ _ _ h.head
  obtain ⟨l, hl⟩ : ∃ l, zs.length = l := ⟨_, rfl⟩
  have hle := h.le
  rw [hl] at c0 hm hle
  by_cases hp : p < l
  · have e1 : ((p : Int) == (l : Int)) = false := by simp; omega
    have e2 : ¬ (p : Int) = (l : Int) := by omega
    obtain ⟨b, off, rfl, hbR, hbl, d0, z0, z1⟩ := hc p (by omega)
    obtain ⟨z, hz⟩ : ∃ z, zs.getD p 0 = z := ⟨_, rfl⟩
    rw [hz] at d0 z0 z1
    have p0 : (0 : Int) ≤ (p : Int) := by omega
    have p1 : (p : Int) < (l : Int) := by omega
    have hno : Hid (¬ (lo ≤ z ∧ z ≤ hi) → ∀ k, num zs p lo hi = .error p ∧ Rd (w.drewN k) R (.slice (some ⟨b, off, none⟩) l cap) zs p ∧ Wrote (fun k => k = R) w (fun k => k = R) (w.drewN k)) := Lib.hid fun hn k => have hU := below_drewN (Below.refl w.heap.size w) k; ⟨by unfold num; rw [if_neg (by rw [hz]; exact fun h => hn h.2)], by rw [hl] at h; exact h.below hU, Wrote.of_below hU⟩
    have hyes : Hid (lo ≤ z ∧ z ≤ hi → ∀ k, num zs p lo hi = .ok z ∧ Rd ((w.drewN k).setCell ⟨R, 1, none⟩ (.int .i64 ((p : Int) + 1))) R (.slice (some ⟨b, off, none⟩) l cap) zs (p + 1) ∧ Wrote (fun k => k = R) w (fun k => k = R) ((w.drewN k).setCell ⟨R, 1, none⟩ (.int .i64 ((p : Int) + 1)))) := Lib.hid fun hy k => by
      have hU := below_drewN (Below.refl w.heap.size w) k
      rw [hl] at h
      obtain ⟨g1, g2⟩ := (h.below hU).next (by omega)
      exact ⟨by unfold num; rw [if_pos ⟨by omega, by rw [hz]; exact hy⟩, hz], g1, (Wrote.of_below hU).trans g2⟩
    clear h hc hz
    by_cases h1 : z < lo
    · have x1 : decide (z < lo) = true := decide_eq_true h1
      replace hno := Lib.hid (hno.out (by omega))
      clear hyes
      go_enter Tryd.func93, Tryd.ntmps93
      go_wp2_with fail
      go_quiet (fail)
      go_wp2_with fail
      go_quiet (fail)
      go_wp2_with fail
      skip
      exact ⟨rfl, .inr ⟨(hno.out 0).1, ⟨(_, _), rfl⟩, (hno.out _).2.1, (hno.out _).2.2⟩⟩
    · have x1 : decide (z < lo) = false := decide_eq_false h1
      by_cases h2 : hi < z
      · have x2 : decide (hi < z) = true := decide_eq_true h2
        replace hno := Lib.hid (hno.out (by omega))
        clear hyes
        go_enter Tryd.func93, Tryd.ntmps93
        go_wp2_with fail
        go_quiet (fail)
        go_wp2_with fail
        go_quiet (fail)
        go_wp2_with fail
        skip
        exact ⟨rfl, .inr ⟨(hno.out 0).1, ⟨(_, _), rfl⟩, (hno.out _).2.1, (hno.out _).2.2⟩⟩
      · have x2 : decide (hi < z) = false := decide_eq_false h2
        replace hyes := Lib.hid (hyes.out ⟨by omega, by omega⟩)
        clear hno
        go_enter Tryd.func93, Tryd.ntmps93
        go_wp2_with fail
        go_quiet (fail)
        go_wp2_with fail
        go_quiet (fail)
        go_wp2_with fail
        go_ret
        rw [hl]
        exact .inl ⟨z, (hyes.out 0).1, rfl, (hyes.out _).2.1, (hyes.out _).2.2⟩
  · obtain rfl : p = l := by omega
    have e1 : ((p : Int) == (p : Int)) = true := by simp
    have hno : Hid (∀ k, num zs p lo hi = .error p ∧ Rd (w.drewN k) R (.slice sp p cap) zs p ∧ Wrote (fun k => k = R) w (fun k => k = R) (w.drewN k)) := Lib.hid fun k => have hU := below_drewN (Below.refl w.heap.size w) k; ⟨by unfold num; rw [if_neg (by omega)], by rw [hl] at h; exact h.below hU, Wrote.of_below hU⟩
    clear h hc
    go_enter Tryd.func93, Tryd.ntmps93
    go_wp2_with fail
    go_quiet (fail)
    go_wp2_with fail
    skip
    exact ⟨rfl, .inr ⟨(hno.out 0).1, ⟨(_, _), rfl⟩, (hno.out _).2.1, (hno.out _).2.2⟩⟩
set_option maxRecDepth 100000 in
theorem below_any (h : Rd w R v zs p) (n : Int) (hn : -9223372036854775808 < n ∧ n ≤ 9223372036854775807) : Calls Tryd.prog 111 #[.pointer (some ⟨R, 0, none⟩), .int .i64 n] w (NumR w R v zs p 0 (n - 1)) := by
  have cn := number_any h 0 (n - 1)
  have z1 : IntKind.i64.wrap (n - 1) = n - 1 := by rw [IntKind.wrap_i64]; omega
  go_enter Tryd.func111, Tryd.ntmps111
  go_wp2_with fail
  with_reducible refine Calls.mono cn ?_
  rintro e w2 (⟨z, g1, rfl, g2, g3⟩ | ⟨g1, ⟨x, rfl⟩, g2, g3⟩)
  · replace g1 := Lib.hid g1
    replace g2 := Lib.hid g2
    clear cn
    go_wp2_with fail
    go_ret
    exact .inl ⟨z, g1.out, rfl, g2.out, g3⟩
  · replace g1 := Lib.hid g1
    replace g2 := Lib.hid g2
    clear cn
    exact ⟨rfl, .inr ⟨g1.out, ⟨x, rfl⟩, g2.out, g3⟩⟩
end Cd
end Go.Proofs.YtapkcjbfflgplaaDoor
