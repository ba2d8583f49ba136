/- Maps from whole numbers to pointers. -/
import Derived.Test.YtbheabjemaaeoabIEnt
namespace Go.Proofs.Ytbheabjemaaeoab
open Go.RowKit Go.Lib Fx Ho
set_option linter.unusedVariables false
namespace Mp
/-- Pointers to whole blocks, told apart by the block. -/
def RQ : Rdr := fun v => match v with
  | .pointer none => some (.nil, [])
  | .pointer (some ⟨b, 0, none⟩) => some (.lit (.int .i64 b), [])
  | _ => none
theorem rq_inv {v : Value} {d : DataW Unit} {ps : List MemPlace} (h : RQ v = some (d, ps)) : ps = [] ∧ ((v = .pointer none ∧ d = .nil) ∨ ∃ b : Nat, v = .pointer (some ⟨b, 0, none⟩) ∧ d = .lit (.int .i64 b)) := by
  unfold RQ at h
  split at h
  · cases h; exact ⟨rfl, .inl ⟨rfl, rfl⟩⟩
  · rename_i b; cases h; exact ⟨rfl, .inr ⟨b, rfl, rfl⟩⟩
  · cases h
theorem fairQ : Fair RQ := ⟨fun h => (rq_inv h).1, fun {u v d} h1 h2 => by
  rcases (rq_inv h1).2 with ⟨rfl, rfl⟩ | ⟨b, rfl, rfl⟩ <;> rcases (rq_inv h2).2 with ⟨rfl, e⟩ | ⟨c, rfl, e⟩
  · rfl
  · cases e
  · cases e
  · injection e with e
    injection e with _ e
    have : b = c := by exact_mod_cast e
    rw [this]⟩
end Mp
end Go.Proofs.Ytbheabjemaaeoab
