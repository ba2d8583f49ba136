/- What is closed in a view: mathematics. -/
import Derived.Test.YtneibhcigbfigaaVwFew
namespace Go.Proofs.Ytneibhcigbfigaa
open Go.RowKit Go.Lib Fx Ho Gr
set_option linter.unusedVariables false
namespace Vw
variable {ts us T lost pre R p : List Int} {L : List Ent} {i k : Nat} {a x y b : Int} {V : Vi} {os : List Ob}
/-- Each object has an address of its own, not 0. -/
def Own (V : Vi) : Prop := ∀ i, i < V.os.length → (V.os.getD i o0).1 ≠ 0 ∧ fnd V.os (V.os.getD i o0).1 = (i : Int)
theorem named_ok (h1 : RchL V ts) (h2 : LstL V us) (h0 : x ≠ 0) (hn : x ∈ rootsL V.gl V.gs ∨ ∃ b, Rch (rootsL V.gl V.gs) V.os b ∧ x ∈ slo V.os b) : (decide (x ∈ ts) != decide (x ∈ us)) = true := by
  by_cases hx : x ∈ ads V.os
  · have e1 : x ∈ ts := (h1.mem x).2 (hn.elim (fun h => .root h h0 hx) fun ⟨b, hb, hs⟩ => .step hb hs h0 hx)
    have e2 : x ∉ us := fun e => ((h2.mem x).1 e).1 hx
    rw [decide_eq_true e1, decide_eq_false e2]; rfl
  · have e1 : x ∉ ts := fun e => hx ((h1.mem x).1 e).in_.2
    have e2 : x ∈ us := (h2.mem x).2 ⟨hx, h0, hn⟩
    rw [decide_eq_false e1, decide_eq_true e2]; rfl
theorem at_some (h1 : RchL V ts) (hx : x ∈ ts) : ∃ k, k < V.os.length ∧ fnd V.os x = (k : Int) ∧ (V.os.getD k o0).1 = x ∧ (V.os.getD k o0).2.1 = slo V.os x := by
  cases e : fidx V.os x with
  | none => exact absurd ((h1.mem x).1 hx).in_.2 (fidx_none.1 e)
  | some k =>
    obtain ⟨e1, e2, e3⟩ := fidx_some e
    exact ⟨k, e1, by unfold fnd; rw [e], e2, e3.symm⟩
theorem at_none (hx : x ∉ ads V.os) : fnd V.os x = -1 := by
  unfold fnd
  rw [fidx_none.2 hx]
theorem get_lt {l : List Int} {j : Nat} (hj : j < l.length) (m : List Int) : (l ++ m).getD j 0 = l.getD j 0 := by
  rw [List.getD_eq_getElem?_getD, List.getElem?_append_left hj, ← List.getD_eq_getElem?_getD]
theorem get_last (l : List Int) (x : Int) : (l ++ [x]).getD l.length 0 = x := by
  rw [List.getD_eq_getElem?_getD, List.getElem?_append_right (Nat.le_refl _), Nat.sub_self]; rfl
theorem Way.chain (h : Bf R os L lost i pre) (hw : Way L a p) : ∀ j, 0 < j → j < p.length → p.getD j 0 ∈ slo os (p.getD (j - 1) 0) := by
  induction hw with
  | root h1 => exact fun j h0 hj => by rw [List.length_singleton] at hj; omega
  | step h1 h2 ih =>
    rename_i a s q
    intro j h0 hj
    rw [List.length_append, List.length_singleton] at hj
    by_cases e : j < q.length
    · rw [get_lt e, get_lt (by omega)]
      exact ih j h0 e
    · obtain rfl : j = q.length := by omega
      rw [get_last, get_lt (by omega)]
      obtain ⟨q', e2⟩ := (Way.facts h h2).1
      have h3 := (h.old _ h1).2.2.1
      have e3 : q.getD (q.length - 1) 0 = (L.getD s (0, 0)).1 := by
        rw [e2, List.length_append, List.length_singleton, Nat.add_sub_cancel, get_last]
      rw [e3]
      exact h3
theorem Way.place (h : Bf R os L lost i pre) (hw : Way L a p) : ∀ k (hk : k < L.length), L[k].1 = a → (∀ x ∈ p, ∃ j, ∃ hj : j < L.length, j ≤ k ∧ L[j].1 = x) ∧ p.Nodup := by
  induction hw with
  | root h1 => exact fun k hk e => ⟨fun x hx => ⟨k, hk, Nat.le_refl _, by rw [List.mem_singleton.1 hx]; exact e⟩, by simp⟩
  | step h1 h2 ih =>
    rename_i a s q
    intro k hk e
    have hm : (a, L[k].2) ∈ L := by
      have := List.getElem_mem hk
      rw [← e]; exact this
    have hs : L[k].2 = s + 1 := h.one hm h1
    have hp := h.pos k hk
    have hsl : s < L.length := by omega
    obtain ⟨i1, i2⟩ := ih s hsl (by rw [getD_L hsl])
    refine ⟨fun x hx => ?_, ?_⟩
    · rcases List.mem_append.1 hx with e2 | e2
      · obtain ⟨j, hj, e3, e4⟩ := i1 x e2
        exact ⟨j, hj, by omega, e4⟩
      · exact ⟨k, hk, Nat.le_refl _, by rw [List.mem_singleton.1 e2]; exact e⟩
    · rw [List.nodup_append]
      refine ⟨i2, by simp, fun u hu v hv e2 => ?_⟩
      rw [List.mem_singleton.1 hv] at e2
      obtain ⟨j, hj, e3, e4⟩ := i1 u hu
      have hn := h.nodup
      have hj2 : j < (ord L).length := by unfold ord; rw [List.length_map]; exact hj
      have hk2 : k < (ord L).length := by unfold ord; rw [List.length_map]; exact hk
      have e5 : (ord L)[j] = (ord L)[k] := by
        have u : ∀ n (hn : n < (ord L).length) (hn' : n < L.length), (ord L)[n] = L[n].1 := fun n hn hn' => by simp [ord]
        rw [u j hj2 hj, u k hk2 hk, e4, e2, e]
      have : j = k := by
        rcases Nat.lt_trichotomy j k with g | g | g
        · exact absurd e5 (List.pairwise_iff_getElem.1 hn j k hj2 hk2 g)
        · exact g
        · exact absurd e5.symm (List.pairwise_iff_getElem.1 hn k j hk2 hj2 g)
      omega
theorem path_in (hF : Fin V x L lost i pre) (hR : Res L x T) (h1 : RchL V ts) (hx : x ∈ ts) : 0 < T.length ∧ T.length ≤ ts.length ∧ T.getD (T.length - 1) 0 = x ∧ T.getD 0 0 ∈ rootsL V.gl V.gs ∧ (∀ j, j < T.length → T.getD j 0 ∈ ts) ∧ ∀ j, 0 < j → j < T.length → T.getD j 0 ∈ slo V.os (T.getD (j - 1) 0) := by
  have hB := hF.bf
  have hin := hF.come ((h1.mem x).1 hx)
  rcases hR with ⟨_, hw⟩ | ⟨hn, _⟩
  · obtain ⟨⟨q, e1⟩, ⟨r, q2, e2, hr⟩, h3, _⟩ := Way.facts hB hw
    have hall : ∀ y ∈ T, y ∈ ts := fun y hy => (h1.mem y).2 (hB.rch (h3 y hy))
    obtain ⟨s, hs⟩ := mem_ord.1 hin
    obtain ⟨k, hk, e⟩ := List.getElem_of_mem hs
    have hnd := (hw.place hB k hk (by rw [e])).2
    refine ⟨by rw [e2]; simp, nodup_le hnd hall, by rw [e1, List.length_append, List.length_singleton, Nat.add_sub_cancel, get_last], by rw [e2]; exact hr, fun j hj => ?_, hw.chain hB⟩
    rw [List.getD_eq_getElem?_getD, List.getElem?_eq_getElem hj]
    exact hall _ (List.getElem_mem hj)
  · exact absurd hin hn
theorem path_out (hF : Fin V x L lost i pre) (hR : Res L x T) (hx : x ∉ ads V.os) : T = [] := by
  rcases hR with ⟨hi, _⟩ | ⟨_, e⟩
  · exact absurd (hF.bf.rch hi).in_.2 hx
  · exact e
theorem mem_getD0 {l : List Int} {j : Nat} (hj : j < l.length) : l.getD j 0 ∈ l := by
  rw [List.getD_eq_getElem?_getD, List.getElem?_eq_getElem hj]
  exact List.getElem_mem hj
theorem wf_lost (h : WfV V) (h2 : LstL V us) (hx : x ∈ us) : WfI x := by
  obtain ⟨_, _, e | ⟨b, _, e⟩⟩ := (h2.mem x).1 hx
  · obtain ⟨_, e | ⟨g, hg, _, e⟩⟩ := mem_roots.1 e
    · exact h.gl x e
    · exact h.gs g hg x e
  · obtain ⟨o, ho, e⟩ := slo_mem e
    exact h.sl o ho x e
theorem wf_rch (h : WfV V) (h1 : RchL V ts) (hx : x ∈ ts) : WfI x := by
  obtain ⟨o, ho, e⟩ := List.mem_map.1 ((h1.mem x).1 hx).in_.2
  rw [← e]
  exact h.oa o ho
end Vw
end Go.Proofs.Ytneibhcigbfigaa
