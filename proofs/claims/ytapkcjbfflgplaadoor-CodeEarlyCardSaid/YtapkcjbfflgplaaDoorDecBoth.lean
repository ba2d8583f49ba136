/- What both Decodes answer, as one. -/
import Derived.Test.YtapkcjbfflgplaaDoorRDecode
import Derived.Test.YtapkcjbfflgplaaDoorBytesArg
namespace Go.Proofs.YtapkcjbfflgplaaDoor
open Go.RowKit Go.Lib Fx Ho Gr
set_option linter.unusedVariables false
namespace Cd
variable {w w' W wr : World} {v fv : Value} {fs fs2 : List (List Ins)} {zs : List Int} {G G2 er er2 at_ at2 : Int} {e : Ending}
/-- What the bytes mean: a program, or the first that is wrong. -/
def Res (zs : List Int) (G : Int) (fs : List (List Ins)) (er at_ : Int) : Prop := (progE zs = .ok (G, fs) ∧ er = 0 ∧ at_ = 0) ∨ (∃ q : Nat, progE zs = .error q ∧ G = 0 ∧ fs = [] ∧ er = 6 ∧ at_ = q)
theorem Res.one (h : Res zs G fs er at_) (k : Res zs G2 fs2 er2 at2) : G2 = G ∧ fs2 = fs ∧ er2 = er ∧ at2 = at_ := by
  rcases h with ⟨e1, rfl, rfl⟩ | ⟨q, e1, rfl, rfl, rfl, rfl⟩ <;> rcases k with ⟨e2, rfl, rfl⟩ | ⟨q2, e2, rfl, rfl, rfl, rfl⟩
  · rw [e1] at e2; cases e2; exact ⟨rfl, rfl, rfl, rfl⟩
  · rw [e1] at e2; cases e2
  · rw [e1] at e2; cases e2
  · rw [e1] at e2; cases e2; exact ⟨rfl, rfl, rfl, rfl⟩
theorem frow_none (w : World) : FRow w (.slice none 0 0) [] := ⟨none, 0, rfl, by simp, fun i hi => by simp at hi⟩
theorem DecR.res (h : DecR w zs e w') : ∃ G fs sp cap er at_, e = .returned (.tuple #[.agg #[.int .i64 G, .slice sp fs.length cap], .int .i64 er, .int .i64 at_]) ∧ Res zs G fs er at_ ∧ FRow w' (.slice sp fs.length cap) fs ∧ Below w.heap.size w w' := by
  rcases h with ⟨G, fs, fv, h1, rfl, h2, h3⟩ | ⟨q, h1, rfl, h3⟩
  · obtain ⟨sp, cap, rfl, _⟩ := id h2
    exact ⟨G, fs, sp, cap, 0, 0, rfl, .inl ⟨h1, rfl, rfl⟩, h2, h3⟩
  · exact ⟨0, [], none, 0, 6, q, rfl, .inr ⟨q, h1, rfl, rfl, rfl, rfl⟩, frow_none _, h3⟩
end Cd
end Go.Proofs.YtapkcjbfflgplaaDoor
