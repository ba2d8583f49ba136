/- View: the state of the search, its mathematics. -/
import Derived.Test.YtneibhcigbfigaaVwObj
namespace Go.Proofs.Ytneibhcigbfigaa
open Go.RowKit Go.Lib Fx Ho Gr
set_option linter.unusedVariables false
namespace Vw
variable {B w w' W : World} {p b1 b2 n1 n2 i j k n : Nat} {v vo ov lv : Value} {R O lost pre rs : List Int} {a x y : Int} {os : List Ob} {gs : List Gor} {gl : List Int} {L : List Ent}
/-- From where each was come to. -/
def parO (L : List Ent) (a : Int) : Option Int := Option.map (fun e : Ent => ahd L e.2) (L.find? (fun e => decide (e.1 = a)))
theorem parO_none : parO L a = none ↔ a ∉ ord L := by
  unfold parO ord
  rw [Option.map_eq_none_iff, List.find?_eq_none, List.mem_map]
  constructor
  · rintro h ⟨e, he, rfl⟩
    exact h e he (decide_eq_true rfl)
  · intro h e he h2
    exact h ⟨e, he, of_decide_eq_true h2⟩
theorem parO_new (h : Bf R os L lost i pre) (hw : a ∉ ord L) : parO (L ++ [(a, i)]) = Mp.upo (parO L) a (ahd L i) := by
  funext x
  unfold parO Mp.upo
  rw [List.find?_append]
  by_cases hx : x = a
  · subst hx
    rw [if_pos rfl]
    have h1 : L.find? (fun e => decide (e.1 = x)) = none := by
      have := parO_none.2 hw
      unfold parO at this
      exact Option.map_eq_none_iff.1 this
    rw [h1]
    simp [ahd_app (h.il) (x, i)]
  · rw [if_neg hx]
    cases e : L.find? (fun e => decide (e.1 = x)) with
    | none =>
      show _ = Option.map (fun e : Ent => ahd L e.2) (L.find? (fun e => decide (e.1 = x)))
      rw [e]
      simp [show ¬ a = x from fun e => hx e.symm]
    | some u =>
      have hu := List.mem_of_find?_eq_some e
      have := h.top u hu
      have := h.il
      show _ = Option.map (fun e : Ent => ahd L e.2) (L.find? (fun e => decide (e.1 = x)))
      rw [e]
      simp [ahd_app (show u.2 ≤ L.length by omega) (a, i)]
theorem slo_mem : ∀ {os : List Ob} {a x : Int}, x ∈ slo os a → ∃ o ∈ os, x ∈ o.2.1
  | [], a, x, h => by cases h
  | o :: os, a, x, h => by
    unfold slo at h
    split at h
    · exact ⟨o, by simp, h⟩
    · obtain ⟨o', h1, h2⟩ := slo_mem h
      exact ⟨o', List.mem_cons_of_mem _ h1, h2⟩
theorem slo_len {m : Nat} : ∀ {os : List Ob} {a : Int}, (∀ o ∈ os, o.2.1.length ≤ m) → (slo os a).length ≤ m
  | [], a, h => Nat.zero_le _
  | o :: os, a, h => by
    unfold slo
    split
    · exact h o (by simp)
    · exact slo_len fun o ho => h o (List.mem_cons_of_mem _ ho)
theorem src_wf {V : Vi} (h : WfV V) (hx : x ∈ src (rootsL V.gl V.gs) V.os L i) : WfI x := by
  cases i with
  | zero =>
    have hx : x ∈ rootsL V.gl V.gs := hx
    obtain ⟨_, e | ⟨g, hg, _, e⟩⟩ := mem_roots.1 hx
    · exact h.gl x e
    · exact h.gs g hg x e
  | succ i =>
    have hx : x ∈ slo V.os (L.getD i (0, 0)).1 := hx
    obtain ⟨o, ho, e⟩ := slo_mem hx
    exact h.sl o ho x e
theorem src_len {V : Vi} (h : Fw V) : (src (rootsL V.gl V.gs) V.os L i).length ≤ 1640 := by
  cases i with
  | zero =>
    show (stks (adds [] V.gl) V.gs).length ≤ _
    have e1 := adds_le V.gl []
    have e2 := stks_le V.gs (adds [] V.gl) h.st
    have := h.gl
    have := h.gs
    rw [List.length_nil] at e1
    omega
  | succ i =>
    have := slo_len (a := (L.getD i (0, 0)).1) h.sl
    show (slo V.os (L.getD i (0, 0)).1).length ≤ _
    omega
theorem Bf.few (h : Bf R os L lost i pre) : L.length ≤ os.length := by
  have h1 := nodup_le (m := ads os) h.nodup fun x hx => by
    obtain ⟨s, hs⟩ := mem_ord.1 hx
    exact (h.old _ hs).2.1
  unfold Vw.ord ads at h1
  rw [List.length_map, List.length_map] at h1
  exact h1
/-- One is come to. -/
theorem Bf.visit (h : Bf R os L lost i pre) (hs : a ∈ src R os L i) (h0 : a ≠ 0) (hlt : ∀ b ∈ pre, b < a) : ∃ L' lost', Bf R os L' lost' i (pre ++ [a]) ∧ parO L' = (if mI os a = none then parO L else if parO L a = none then Mp.upo (parO L) a (ahd L i) else parO L) ∧ Vw.ord L' = (if mI os a = none then Vw.ord L else if parO L a = none then Vw.ord L ++ [a] else Vw.ord L) ∧ lost' = (if mI os a = none then lost ++ [a] else lost) ∧ src R os L' i = src R os L i ∧ ahd L' i = ahd L i := by
  by_cases h1 : mI os a = none
  · rw [if_pos h1, if_pos h1, if_pos h1]
    exact ⟨L, _, h.lose (mI_none.1 h1), rfl, rfl, rfl, rfl, rfl⟩
  · have hA : a ∈ ads os := Classical.byContradiction fun e => h1 (mI_none.2 e)
    rw [if_neg h1, if_neg h1, if_neg h1]
    by_cases h2 : parO L a = none
    · rw [if_pos h2, if_pos h2]
      have hw := parO_none.1 h2
      exact ⟨L ++ [(a, i)], lost, h.new hA hw h0 hs hlt, parO_new h hw, by unfold Vw.ord; rw [List.map_append]; rfl, rfl, src_app h.il _, ahd_app h.il _⟩
    · rw [if_neg h2, if_neg h2]
      exact ⟨L, lost, h.was hA (Classical.byContradiction fun e => h2 (parO_none.2 e)), rfl, rfl, rfl, rfl, rfl⟩
/-- Where the search stands. -/
structure St (B w : World) (V : Vi) (p b1 b2 : Nat) (vo ov lv : Value) (n1 n2 : Nat) (L : List Ent) (lost : List Int) (i : Nat) (pre : List Int) : Prop where
  wk : Wk B w p b1 b2 vo ov lv n1 n2 (mI V.os) (parO L) (Vw.ord L) lost
  bf : Bf (rootsL V.gl V.gs) V.os L lost i pre
  n2 : n2 ≤ 2000 * i + pre.length
  lo : lost.length ≤ 2000 * i + pre.length
theorem St.below {V : Vi} (h : St B w V p b1 b2 vo ov lv n1 n2 L lost i pre) (hb : Below w.heap.size w w') : St B w' V p b1 b2 vo ov lv n1 n2 L lost i pre := ⟨h.wk.below hb, h.bf, h.n2, h.lo⟩
theorem St.next {V : Vi} (h : St B w V p b1 b2 vo ov lv n1 n2 L lost i pre) (hr : Ris (src (rootsL V.gl V.gs) V.os L i) pre) (hi : i < L.length) (hp : pre.length ≤ 2000) : St B w V p b1 b2 vo ov lv n1 n2 L lost (i + 1) [] :=
  ⟨h.wk, h.bf.next hr hi, by have := h.n2; rw [List.length_nil]; omega, by have := h.lo; rw [List.length_nil]; omega⟩
/-- What the search leaves: all was gone through, or the one that is looked for was come to. -/
def Fin (V : Vi) (till : Int) (L : List Ent) (lost : List Int) (i : Nat) (pre : List Int) : Prop := Bf (rootsL V.gl V.gs) V.os L lost i pre ∧ Ris (src (rootsL V.gl V.gs) V.os L i) (pre) ∧ i = L.length ∨ Bf (rootsL V.gl V.gs) V.os L lost i pre ∧ till ∈ pre ∧ till ≠ 0
def ExR (w : World) (V : Vi) (vo : Value) (till : Int) (e : Ending) (w' : World) : Prop := ∃ p b1 b2 ov lv n1 n2 L lost i pre, e = .returned (.pointer (some ⟨p, 0, none⟩)) ∧ Wk w w' p b1 b2 vo ov lv n1 n2 (mI V.os) (parO L) (Vw.ord L) lost ∧ Fin V till L lost i pre ∧ L.length ≤ 40 ∧ lost.length ≤ 90000
theorem Wk.base {B0 : World} {m1 m2 : Int → Option Int} (h : Wk B w p b1 b2 vo ov lv n1 n2 m1 m2 O lost) (hb : Below B0.heap.size B0 B) : Wk B0 w p b1 b2 vo ov lv n1 n2 m1 m2 O lost := by
  have := hb.size
  exact ⟨h.head, h.at_, h.from_, h.ord, h.lost, h.ap, ⟨by have := h.low.1; omega, by have := h.low.2.1; omega, by have := h.low.2.2.1; omega, fun k hk => by have := h.low.2.2.2.1 k hk; omega, fun k hk => by have := h.low.2.2.2.2 k hk; omega⟩, hb.trans (h.bel.mono hb.size)⟩
theorem ord_get (hi : i < L.length) : (Vw.ord L).getD i 0 = (L.getD i (0, 0)).1 := by
  unfold Vw.ord
  rw [List.getD_eq_getElem?_getD, List.getElem?_map, List.getElem?_eq_getElem hi, List.getD_eq_getElem?_getD, List.getElem?_eq_getElem hi]; rfl
end Vw
end Go.Proofs.Ytneibhcigbfigaa
