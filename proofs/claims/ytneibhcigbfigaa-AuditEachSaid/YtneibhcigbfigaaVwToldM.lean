/- treadmilllaw29.told: a few of a view. -/
import Derived.Test.YtneibhcigbfigaaVwWhite
import Derived.Test.YtneibhcigbfigaaVwBack
import Derived.Test.YtneibhcigbfigaaVwFind
import Derived.Test.YtneibhcigbfigaaVwWords
namespace Go.Proofs.Ytneibhcigbfigaa
open Go.RowKit Go.Lib Fx Ho Gr
set_option linter.unusedVariables false
namespace Vw
variable {w w' W : World} {zs T pre lost ts : List Int} {L : List Ent} {i s : Nat} {a x : Int} {V : Vi} {R : List Int} {os : List Ob}
theorem lit_ints (w : World) (zs : List Int) (n : Nat) (hn : zs.length = n) (hl : n ≤ 1000000) : Ints (w.alloc (.cells (cells zs).toArray 3)) Any (.slice (some ⟨w.heap.size, 0, none⟩) n n) zs := by
  have k := heap_alloc_new w (.cells (cells zs).toArray 3)
  subst hn
  refine ⟨_, _, rfl, by omega, fun i hi => ⟨_, 0, rfl, trivial, block_lt k, ?_⟩⟩
  rw [Nat.zero_add]
  refine cell_of k ?_
  rw [List.getElem?_toArray]
  unfold cells
  rw [List.getElem?_map, List.getElem?_eq_getElem hi, List.getD_eq_getElem?_getD, List.getElem?_eq_getElem hi]; rfl
/-- A way, as the search leaves it. -/
theorem Way.facts (h : Bf R os L lost i pre) {p : List Int} (hw : Way L a p) : (∃ q, p = q ++ [a]) ∧ (∃ r q, p = r :: q ∧ r ∈ R) ∧ (∀ x ∈ p, x ∈ ord L) ∧ (a ∈ R → p = [a]) := by
  induction hw with
  | root h1 =>
    refine ⟨⟨[], rfl⟩, ⟨_, [], rfl, (h.old _ h1).2.2.1⟩, fun x hx => ?_, fun _ => rfl⟩
    rw [List.mem_singleton.1 hx]
    exact mem_ord.2 ⟨_, h1⟩
  | step h1 h2 ih =>
    rename_i a s p
    obtain ⟨_, ⟨r, q, e, hr⟩, h3, _⟩ := ih
    refine ⟨⟨p, rfl⟩, ⟨r, q ++ [a], by rw [e]; rfl, hr⟩, fun x hx => ?_, fun ha => absurd ha ((h.old _ h1).2.2.2 0 (by show 0 < s + 1; omega))⟩
    rcases List.mem_append.1 hx with e2 | e2
    · exact h3 x e2
    · rw [List.mem_singleton.1 e2]; exact mem_ord.2 ⟨_, h1⟩
/-- One step of a way: who names it. -/
theorem Way.back (h : Bf R os L lost i pre) {p : List Int} (hw : Way L a p) : (a ∈ R ∧ p = [a]) ∨ (a ∉ R ∧ ∃ b q, p = q ++ [a] ∧ Way L b q ∧ a ∈ slo os b ∧ b ∈ ord L) := by
  cases hw with
  | root h1 => exact .inl ⟨(h.old _ h1).2.2.1, rfl⟩
  | step h1 h2 =>
    rename_i s q
    have h3 := (h.old _ h1).2.2.1
    exact .inr ⟨(h.old _ h1).2.2.2 0 (by show 0 < s + 1; omega), _, q, rfl, h2, h3, (Way.facts h h2).2.2.1 _ (by obtain ⟨q', e⟩ := (Way.facts h h2).1; rw [e]; simp)⟩
theorem Bf.rch (h : Bf R os L lost i pre) (ha : a ∈ ord L) : Rch R os a := by
  obtain ⟨s, hs⟩ := mem_ord.1 ha
  obtain ⟨k, hk, e⟩ := List.getElem_of_mem hs
  have := h.sound k hk
  rw [e] at this; exact this
/-- Who was looked for was come to, if that can be. -/
theorem Fin.come (h : Fin V x L lost i pre) (hr : Rch (rootsL V.gl V.gs) V.os x) : x ∈ ord L := by
  rcases h with ⟨h1, h2, h3⟩ | ⟨h1, h2, _⟩
  · exact (h1.mem h2 h3).2 hr
  · exact h1.now x h2 hr.in_.2
def osT : List Ob := [(64, [128, 0], false), (128, [256], true), (192, [0], false)]
def VT : Vi := ⟨0, 0, 0, [64], [], osT, 0, 0, 0⟩
theorem rT : rootsL VT.gl VT.gs = [64] := by decide
theorem reT : Rch (rootsL VT.gl VT.gs) VT.os a ↔ a = 64 ∨ a = 128 := by
  constructor
  · intro h
    induction h with
    | root h1 => rw [rT, List.mem_singleton] at h1; exact .inl h1
    | step h1 h2 h3 h4 ih =>
      rcases ih with rfl | rfl
      · have h2 : _ ∈ [(128 : Int), 0] := h2
        simp at h2
        exact .inr (h2.resolve_right h3)
      · have h2 : _ ∈ [(256 : Int)] := h2
        rw [List.mem_singleton] at h2
        rw [h2] at h4
        exact absurd h4 (by decide)
  · have h64 : Rch (rootsL VT.gl VT.gs) VT.os 64 := .root (by rw [rT]; simp) (by decide) (by decide)
    rintro (rfl | rfl)
    · exact h64
    · exact .step h64 (by show (128 : Int) ∈ [(128 : Int), 0]; simp) (by decide) (by decide)
theorem reachT (h : RchL VT ts) : ts = [64, 128] := up_one h.up (by decide) fun x => by rw [h.mem, reT]; simp
theorem whiteT (h : WhtL VT ts) : ts = [64] := up_one h.up (by decide) fun x => by
  rw [h.mem, reT, List.mem_singleton]
  constructor
  · rintro ⟨rfl | rfl, h2⟩
    · rfl
    · exact absurd h2 (by decide)
  · rintro rfl
    exact ⟨.inl rfl, by decide⟩
theorem lostT (h : LstL VT ts) : ts = [256] := up_one h.up (by decide) fun x => by
  rw [h.mem, List.mem_singleton]
  unfold Lst
  constructor
  · rintro ⟨h1, h2, h3 | ⟨b, hb, h3⟩⟩
    · rw [rT, List.mem_singleton] at h3
      rw [h3] at h1; exact absurd (by decide) h1
    · rcases reT.1 hb with rfl | rfl
      · have h3 : x ∈ [(128 : Int), 0] := h3
        simp at h3
        rcases h3 with rfl | rfl
        · exact absurd (by decide) h1
        · exact absurd rfl h2
      · have h3 : x ∈ [(256 : Int)] := h3
        exact List.mem_singleton.1 h3
  · rintro rfl
    exact ⟨by decide, by decide, .inr ⟨128, reT.2 (.inr rfl), by show (256 : Int) ∈ [(256 : Int)]; simp⟩⟩
theorem pathT (h : Fin VT 128 L lost i pre) (hr : Res L 128 T) : T = [64, 128] := by
  have hB := h.bf
  have hin := h.come (reT.2 (.inr rfl))
  rcases hr with ⟨_, hw⟩ | ⟨hn, _⟩
  · rcases hw.back hB with ⟨e, _⟩ | ⟨_, b, q, e1, e2, e3, e4⟩
    · rw [rT] at e; exact absurd e (by decide)
    · rcases reT.1 (hB.rch e4) with rfl | rfl
      · rw [e1, (e2.facts hB).2.2.2 (by rw [rT]; simp)]; rfl
      · have e3 : (128 : Int) ∈ [(256 : Int)] := e3
        exact absurd e3 (by decide)
  · exact absurd hin hn
theorem wfT : WfV VT := ⟨by decide, by decide, by decide, by decide⟩
theorem fwT : Fw VT := ⟨by decide, by decide, by decide, by decide, by decide⟩
theorem fndT : fnd VT.os 192 = 2 := by decide
theorem wdsT : wds VT.os = 4 := by decide +kernel
end Vw
end Go.Proofs.Ytneibhcigbfigaa
