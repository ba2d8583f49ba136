/- What package queue's Get answers. -/
import Derived.Test.YtmngaedcckjfoabQueue
namespace Go.Proofs.Ytmngaedcckjfoab
open Go.RowKit Go.Lib Fx Ho
set_option linter.unusedVariables false
namespace Qu
variable {w w' : World} {p : Nat} {v : Value} {zs : List Int} {H H' : Home}
/-- What is left of a row once its first ones are gone. -/
theorem OffRow.drop {sp a1 : Option Addr} {n cap : Nat} (h : OffRow w (.slice sp zs.length cap) zs) (hn : n ≤ zs.length) (ha : a1 = sp.map (·.add n) ∨ cap = n ∧ a1 = sp) : OffRow w (.slice a1 (zs.length - n) (cap - n)) (zs.drop n) := by
  obtain ⟨ao, b, off, cap', e, hc, hm, hxx⟩ := h
  cases e
  have hle := hc.le
  rcases ha with rfl | ⟨rfl, rfl⟩
  · refine ⟨_, b, off + n, cap - n, by rw [List.length_drop], ⟨by rw [List.length_drop]; omega, fun h0 => ?_, fun h0 => hc.lt (by omega), by rw [cells_len]; omega, fun j u hj => ?_, fun j hj => ?_⟩, ⟨by have := hm.1; omega, fun j hj => by rw [Nat.add_assoc]; exact hm.2 (n + j) (by omega)⟩, hxx.elim (fun e => .inl ⟨by rw [e.1]; simp [addr_add], e.2⟩) (fun e => .inr ⟨by rw [e.1]; rfl, by omega⟩)⟩
    · rw [hc.addr (by omega)]; simp [addr_add]
    · rw [Nat.add_assoc]
      refine hc.olds (n + j) u ?_
      unfold cells at hj ⊢
      rw [List.map_drop, List.getElem?_drop] at hj
      exact hj
    · rw [List.length_drop] at hj ⊢
      have := hc.spare j (by omega)
      rw [show off + n + (zs.length - n) * 1 + j = off + zs.length * 1 + j by omega]
      exact this
  · have hz : zs.drop cap = [] := List.drop_eq_nil_of_le hle
    rw [hz, show zs.length - cap = 0 by omega, Nat.sub_self]
    exact ⟨_, b, off, 0, rfl, ⟨Nat.le_refl _, fun h0 => by omega, fun h0 => by omega, rfl, fun j u hj => by simp [cells] at hj, fun j hj => by omega⟩, ⟨by decide, fun j hj => by omega⟩, hxx.elim .inl (fun e => .inr ⟨e.1, rfl⟩)⟩
theorem min_four (P : Program) (ts : Array TypeId) (t : TypeId) (x y z u n : Nat) (h : n = min (min (min x y) z) u) (W : World) : (Builtin.min_ ts t #[.int .i64 (x : Int), .int .i64 (y : Int), .int .i64 (z : Int), .int .i64 (u : Int)]).run P W = .ok (.int .i64 (n : Int)) W := by
  subst h
  simp [Builtin.min_, Builtin.min2]
  omega
end Qu
end Go.Proofs.Ytmngaedcckjfoab
