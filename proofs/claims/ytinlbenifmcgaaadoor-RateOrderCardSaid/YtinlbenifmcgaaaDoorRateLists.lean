/- Two lists of floats by their bits; the document's own Most: an insertion, falling. -/
import Derived.Test.YtinlbenifmcgaaaDoorFlArg
import Derived.Deep.Cut
import Derived.Deep.CutBlock
import Derived.Deep.CutRange
namespace Go.Proofs.YtinlbenifmcgaaaDoor
open Go.RowKit Go.Lib Fx Ho Gr
set_option linter.unusedVariables false
namespace Pr
open Fk Fl Ieee Hm
variable {w w' : World} {x y r p : Nat} {v u v2 : Value} {zs ys L : List Nat}
set_option maxRecDepth 100000 in
/-- Two lists of the same places are the same. -/
theorem lists_any (h : Fls w v zs) (h2 : Fls w v2 ys) (hk : zs.map key = ys.map key) (hz : zs.length ≤ 1000) : Calls Tryd.prog 21 #[v, v2] w (Ans (.bool true) w) := by
  obtain ⟨⟨sp, cap, rfl, _, hi⟩, hw⟩ := h
  obtain ⟨⟨sp2, cap2, rfl, _, hi2⟩, hw2⟩ := h2
  have hl : ys.length = zs.length := by have := congrArg List.length hk; simpa using this.symm
  rw [hl] at hi2 ⊢
  obtain ⟨n, hn⟩ : ∃ n, zs.length = n := ⟨_, rfl⟩
  rw [hn] at hi hi2 hz hl ⊢
  have hke : Hid (∀ i, i < n → key (zs.getD i 0) = key (ys.getD i 0)) := Lib.hid fun i hin => by
    have := congrArg (fun l => l[i]?) hk
    simp only [List.getElem?_map] at this
    rw [List.getElem?_eq_getElem (by omega), List.getElem?_eq_getElem (by omega)] at this
    rw [Hm.getD_at (by omega), Hm.getD_at (by omega)]
    simpa using this
  replace hi := Lib.hid hi
  replace hi2 := Lib.hid hi2
  replace hw := Lib.hid hw
  replace hw2 := Lib.hid hw2
  clear hk hl hn
  go_enter Tryd.func21, Tryd.ntmps21
  go_wp2_with fail
  go_loopw [5] (fun u wr => ∃ i k : Nat, u = .int .i64 i ∧ i ≤ n ∧ wr = w.drewN k) (fun u _ => (n - (RowKit.intOf u).toNat))
  case atStart => exact ⟨0, 0, rfl, by omega, rfl⟩
  case round =>
    obtain ⟨i, k, rfl, h1, rfl⟩ := hrel
    by_cases hin : i < n
    · obtain ⟨b, off, rfl, hb, hc⟩ := hi.out i hin
      obtain ⟨b2, off2, rfl, hb2, hc2⟩ := hi2.out i hin
      have cs := fun W => same_any (zs.getD i 0) (ys.getD i 0) (wf_get hw.out i) (wf_get hw2.out i) W
      rw [decide_eq_true (hke.out i hin)] at cs
      generalize zs.getD i 0 = x at *
      generalize ys.getD i 0 = y at *
      clear hke hw hw2 hi hi2
      obtain ⟨w1, hw1⟩ : ∃ w1, w.drewN k = w1 := ⟨_, rfl⟩
      replace hc : w1.cell? ⟨b, off + i, none⟩ = some (.float .f64 x) := by rw [← hw1]; exact hc
      replace hc2 : w1.cell? ⟨b2, off2 + i, none⟩ = some (.float .f64 y) := by rw [← hw1]; exact hc2
      simp only [hw1]
      replace hw1 := Lib.hid hw1
      go_wp2_with fail
      go_quiet ((go_at_call 12; exact quiet_ans1 ((cs _).mono fun _ _ h => ⟨h.1, 0, h.2.symm⟩)))
      go_wp2_with fail
      go_roundw
      case rel => exact ⟨i + 1, _, by go_num, by omega, by rw [← hw1.out]; exact World.drewN_drewN _ _ _⟩
      case measure => simp [RowKit.intOf]; omega
    · obtain rfl : i = n := by omega
      go_wp2_with fail
      go_ret
      exact ⟨rfl, _, rfl⟩
/-- x put in its place in a falling list: behind all that are not less than it. -/
def insL (x : Nat) : List Nat → List Nat
  | [] => [x]
  | a :: r => if key a < key x then x :: a :: r else a :: insL x r
end Pr
end Go.Proofs.YtinlbenifmcgaaaDoor
