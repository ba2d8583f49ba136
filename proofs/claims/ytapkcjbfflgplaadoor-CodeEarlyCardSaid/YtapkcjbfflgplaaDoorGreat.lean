/- Is a program more than is asked here? -/
import Derived.Test.YtapkcjbfflgplaaDoorREncode
import Derived.Test.YtapkcjbfflgplaaDoorProgArg
namespace Go.Proofs.YtapkcjbfflgplaaDoor
open Go.RowKit Go.Lib Fx Ho Gr
set_option linter.unusedVariables false
namespace Cd
variable {w w' W wr : World} {v fv : Value} {G nf len n : Int} {fs : List (List Ins)} {zs A : List Int} {l : List Ins}
def GreatR (w : World) (e : Ending) (w' : World) : Prop := (e = .returned (.bool true) ∨ e = .returned (.bool false)) ∧ Below w.heap.size w w'
set_option maxRecDepth 100000 in
set_option maxHeartbeats 4000000 in
theorem great_any (h : FRow w v fs) (G : Int) : Calls Tryd.prog 31 #[.agg #[.int .i64 G, v]] w (GreatR w) := by
  obtain ⟨sp, cap, rfl, hat⟩ := h.fix
  obtain ⟨m, hm⟩ : ∃ m, fs.length = m := ⟨_, rfl⟩
  have hmb : m ≤ 9223372036854775807 := by obtain ⟨_, _, _, hb, _⟩ := h; omega
  have hat : Hid (∀ i, i < m → ∃ (b off : Nat) (sv : Option Addr) (l cp : Nat), sp = some ⟨b, off, none⟩ ∧ (l : Int) ≤ 9223372036854775807 ∧ ∀ wr, Below w.heap.size w wr → wr.cell? ⟨b, off + i, none⟩ = some (.slice sv l cp)) := Lib.hid fun i hi => by
    obtain ⟨b, off, sv, cp, e, hv⟩ := hat i (by omega)
    have hl : (fs.getD i []).length ≤ 9223372036854775807 := by obtain ⟨_, _, _, hb, _⟩ := (hv w (Below.refl _ _)).2; exact hb
    exact ⟨b, off, sv, _, cp, e, by omega, fun wr hb => (hv wr hb).1⟩
  clear h
  rw [hm]
  clear hm
  have hbU : Hid (Below w.heap.size w (w.alloc (.cells #[.int .i64 G, .slice sp m cap] 49))) := Lib.hid (below_alloc (Below.refl _ _) _)
  have c1 : (w.alloc (.cells #[.int .i64 G, .slice sp m cap] 49)).cell? ⟨w.heap.size, 1, none⟩ = some (.slice sp m cap) := cell_of (heap_alloc_new _ _) rfl
  obtain ⟨N, hN⟩ : ∃ N, w.heap.size = N := ⟨_, rfl⟩
  rw [hN] at c1
  go_enter Tryd.func31, Tryd.ntmps31
  go_wp2_with fail
  obtain ⟨U, hU⟩ : ∃ U, w.alloc (.cells #[.int .i64 G, .slice sp m cap] 49) = U := ⟨_, rfl⟩
  rw [hU] at hbU c1 ⊢
  clear hU hN
  go_loopw [3, 4] (fun u3 u4 wr => ∃ (j : Nat) (s : Int), u4 = .int .i64 j ∧ u3 = .int .i64 s ∧ j ≤ m ∧ wr = U) (fun _ y _ => (m - (RowKit.intOf y).toNat))
  case atStart => exact ⟨0, _, rfl, rfl, by omega, rfl⟩
  case round =>
    obtain ⟨j, s, rfl, rfl, jm, ew⟩ := hrel
    have ew := ew.symm
    subst ew
    have j0 : (0 : Int) ≤ (j : Int) := by omega
    by_cases hj : j < m
    · have j1 : (j : Int) < (m : Int) := by omega
      obtain ⟨b, off, sv, l, cp, rfl, hl, hv⟩ := hat.out j hj
      have d0 := hv U hbU.out
      have wj : IntKind.i64.wrap ((j : Int) + 1) = (j : Int) + 1 := by rw [IntKind.wrap_i64]; omega
      clear hv
      go_wp2_with fail
      go_roundw
      case rel => exact ⟨j + 1, _, by go_num, rfl, by omega, by first | rfl | trivial⟩
      case measure => simp [RowKit.intOf]; omega
    · obtain rfl : j = m := by omega
      have j1 : ¬ (j : Int) < (j : Int) := by omega
      by_cases hs : 2000 < s
      · have h1 : decide (2000 < s) = true := decide_eq_true hs
        go_wp2_with fail
        go_ret
        exact ⟨.inl rfl, hbU.out⟩
      · have h1 : decide (2000 < s) = false := decide_eq_false hs
        go_wp2_with fail
        go_ret
        exact ⟨.inr rfl, hbU.out⟩
end Cd
end Go.Proofs.YtapkcjbfflgplaaDoor
