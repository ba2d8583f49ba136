/- How many ids stand in unswept and in swept rows, and which ids stand anywhere: what the calls of package central make of them. -/
import Derived.Test.YtejijddhmckgiaaCenTq
namespace Go.Proofs.Ytejijddhmckgiaa
open Go.RowKit Go.Lib Fx Ho Rw Mp
set_option linter.unusedVariables false
namespace Ce
variable {Q : Ce.Rows} {x y : Int} {r t : Nat}
theorem in_iff (h : Apart Q) : inQ Q y = true ↔ ∃ r, y ∈ Q r := by
  constructor
  · intro hi; obtain ⟨r, _, hm⟩ := inQ_at hi; exact ⟨r, hm⟩
  · rintro ⟨r, hm⟩
    by_cases hr : r < 64
    · exact inQ_yes hr hm
    · rw [h.out r (by omega)] at hm; cases hm
theorem in_no (h : Apart Q) (hi : inQ Q y = false) : ∀ r, y ∉ Q r := fun r hm => by
  have := (in_iff h).2 ⟨r, hm⟩
  rw [hi] at this; cases this
theorem del_not (h : Apart Q) (hi : inQ Q x = false) : delQ Q x = Q := by
  funext s
  exact List.erase_of_not_mem (in_no h hi s)
theorem apart_del (h : Apart Q) (x : Int) : Apart (delQ Q x) :=
  ⟨fun r => (h.nd r).sublist List.erase_sublist, fun r s y h1 h2 => h.one r s y (List.mem_of_mem_erase h1) (List.mem_of_mem_erase h2), fun r hr => by unfold delQ; rw [h.out r hr]; rfl⟩
theorem in_del (h : Apart Q) : inQ (delQ Q x) y = true ↔ y ≠ x ∧ inQ Q y = true := by
  rw [in_iff (apart_del h x), in_iff h]
  constructor
  · rintro ⟨r, hm⟩
    have := (h.nd r).mem_erase_iff.1 hm
    exact ⟨this.1, r, this.2⟩
  · rintro ⟨h1, r, hm⟩
    exact ⟨r, (h.nd r).mem_erase_iff.2 ⟨h1, hm⟩⟩
theorem apart_put (h : Apart Q) (hr : r < 64) (x : Int) : Apart (putQ Q r x) := by
  have hd := apart_del h x
  have hx : ∀ s, x ∉ delQ Q x s := fun s hm => ((h.nd s).mem_erase_iff.1 hm).1 rfl
  have key : ∀ s y, y ∈ putQ Q r x s → y ∈ delQ Q x s ∨ y = x ∧ s = r := fun s y hy => by
    unfold putQ at hy
    by_cases e : s = r
    · subst e; rw [upd_same] at hy
      rcases List.mem_append.1 hy with h | h
      · exact .inl h
      · exact .inr ⟨by simpa using h, rfl⟩
    · rw [upd_ne _ _ e] at hy; exact .inl hy
  refine ⟨fun s => ?_, fun s u y h1 h2 => ?_, fun s hs => ?_⟩
  · unfold putQ
    by_cases e : s = r
    · subst e; rw [upd_same, List.nodup_append]
      refine ⟨hd.nd s, by simp, fun a ha b hb => ?_⟩
      rw [List.mem_singleton] at hb
      subst hb
      exact fun e => hx s (e ▸ ha)
    · rw [upd_ne _ _ e]; exact hd.nd s
  · rcases key s y h1 with a | ⟨a, a2⟩ <;> rcases key u y h2 with b | ⟨b, b2⟩
    · exact hd.one s u y a b
    · subst b; exact absurd a (hx s)
    · subst a; exact absurd b (hx u)
    · rw [a2, b2]
  · unfold putQ; rw [upd_ne _ _ (by omega)]; exact hd.out s hs
theorem in_put (h : Apart Q) (hr : r < 64) : inQ (putQ Q r x) y = true ↔ y = x ∨ inQ Q y = true := by
  rw [in_iff (apart_put h hr x), in_iff h]
  constructor
  · rintro ⟨s, hm⟩
    unfold putQ at hm
    by_cases e : s = r
    · subst e; rw [upd_same] at hm
      rcases List.mem_append.1 hm with h | h
      · exact .inr ⟨s, List.mem_of_mem_erase h⟩
      · exact .inl (by simpa using h)
    · rw [upd_ne _ _ e] at hm; exact .inr ⟨s, List.mem_of_mem_erase hm⟩
  · rintro (rfl | ⟨s, hm⟩)
    · exact ⟨r, by unfold putQ; rw [upd_same]; simp⟩
    · by_cases hyx : y = x
      · subst hyx; exact ⟨r, by unfold putQ; rw [upd_same]; simp⟩
      · refine ⟨s, ?_⟩
        have hd : y ∈ delQ Q x s := (h.nd s).mem_erase_iff.2 ⟨hyx, hm⟩
        unfold putQ
        by_cases e : s = r
        · subst e; rw [upd_same]; simp [hd]
        · rw [upd_ne _ _ e]; exact hd
theorem in_beg (h : Apart Q) : inQ (begQ Q) y = inQ Q y := by
  have key : (∃ r, r < 64 ∧ y ∈ begQ Q r) ↔ ∃ r, r < 64 ∧ y ∈ Q r := by
    constructor
    · rintro ⟨s, hs, hm⟩
      unfold begQ begT at hm
      rw [if_pos (by omega)] at hm
      by_cases h2 : s % 4 < 2
      · rw [if_pos h2] at hm; cases hm
      · rw [if_neg h2] at hm
        rcases List.mem_append.1 hm with h | h
        · exact ⟨s, hs, h⟩
        · exact ⟨s - 2, by omega, h⟩
    · rintro ⟨s, hs, hm⟩
      by_cases h2 : s % 4 < 2
      · refine ⟨s + 2, by omega, ?_⟩
        unfold begQ begT
        rw [if_pos (by omega), if_neg (by omega), show s + 2 - 2 = s by omega]
        simp [hm]
      · refine ⟨s, hs, ?_⟩
        unfold begQ begT
        rw [if_pos (by omega), if_neg h2]
        simp [hm]
  by_cases hi : inQ Q y = true
  · obtain ⟨r, hr, hm⟩ := inQ_at hi
    obtain ⟨s, hs, hm2⟩ := key.2 ⟨r, hr, hm⟩
    rw [hi, inQ_yes hs hm2]
  · have hi2 : inQ Q y = false := by simpa using hi
    rw [hi2]
    refine inQ_no (fun s hs hm => ?_)
    obtain ⟨r, hr, hm2⟩ := key.1 ⟨s, hs, hm⟩
    exact hi (inQ_yes hr hm2)
theorem uns_del (h : Apart Q) (hx : x ∈ Q r) : ∀ t, uns (delQ Q x) t + (if 2 ≤ r % 4 ∧ r / 4 * 2 + r % 2 < t then 1 else 0) = uns Q t
  | 0 => by rw [if_neg (by omega)]; rfl
  | t + 1 => by
    have ih := uns_del h hx t
    show uns (delQ Q x) t + ((Q (urow t)).erase x).length + _ = uns Q t + (Q (urow t)).length
    have hu : urow t = t / 2 * 4 + 2 + t % 2 := rfl
    by_cases e : urow t = r
    · rw [if_neg (by omega)] at ih
      rw [if_pos (by omega), List.length_erase_of_mem (by rw [e]; exact hx)]
      have : 0 < (Q (urow t)).length := by rw [e]; exact List.length_pos_of_mem hx
      omega
    · rw [List.erase_of_not_mem (fun hm => e (h.one _ _ x hm hx))]
      by_cases c : 2 ≤ r % 4 ∧ r / 4 * 2 + r % 2 < t
      · rw [if_pos c] at ih; rw [if_pos (by omega)]; omega
      · rw [if_neg c] at ih; rw [if_neg (by omega)]; omega
theorem msum_del (h : Apart Q) (hx : x ∈ Q r) : ∀ t, msum (delQ Q x) t + (if r % 4 < 2 ∧ r / 4 * 2 + r % 2 < t then 1 else 0) = msum Q t
  | 0 => by rw [if_neg (by omega)]; rfl
  | t + 1 => by
    have ih := msum_del h hx t
    show msum (delQ Q x) t + ((Q (srow t)).erase x).length + _ = msum Q t + (Q (srow t)).length
    have hu : srow t = t / 2 * 4 + t % 2 := rfl
    by_cases e : srow t = r
    · rw [if_neg (by omega)] at ih
      rw [if_pos (by omega), List.length_erase_of_mem (by rw [e]; exact hx)]
      have : 0 < (Q (srow t)).length := by rw [e]; exact List.length_pos_of_mem hx
      omega
    · rw [List.erase_of_not_mem (fun hm => e (h.one _ _ x hm hx))]
      by_cases c : r % 4 < 2 ∧ r / 4 * 2 + r % 2 < t
      · rw [if_pos c] at ih; rw [if_pos (by omega)]; omega
      · rw [if_neg c] at ih; rw [if_neg (by omega)]; omega
/-- One that stands there is taken out: one fewer in all. -/
theorem tot_del (h : Apart Q) (hi : inQ Q x = true) : uns (delQ Q x) 32 + msum (delQ Q x) 32 + 1 = uns Q 32 + msum Q 32 := by
  obtain ⟨r, hr, hm⟩ := inQ_at hi
  have h1 := uns_del h hm 32
  have h2 := msum_del h hm 32
  by_cases c : r % 4 < 2
  · rw [if_neg (by omega)] at h1
    rw [if_pos (by omega)] at h2
    omega
  · rw [if_pos (by omega)] at h1
    rw [if_neg (by omega)] at h2
    omega
theorem uns_upd {L : List Int} (hr : r % 4 < 2) : ∀ t, uns (upd Q r L) t = uns Q t
  | 0 => rfl
  | t + 1 => by
    show uns (upd Q r L) t + (upd Q r L (urow t)).length = uns Q t + (Q (urow t)).length
    rw [uns_upd hr t, upd_ne _ _ (by unfold urow; omega)]
theorem msum_upd {L : List Int} (hr : r % 4 < 2) : ∀ t, msum (upd Q r L) t + (if r / 4 * 2 + r % 2 < t then (Q r).length else 0) = msum Q t + (if r / 4 * 2 + r % 2 < t then L.length else 0)
  | 0 => by rw [if_neg (by omega), if_neg (by omega)]; rfl
  | t + 1 => by
    have ih := msum_upd (L := L) hr t
    show msum (upd Q r L) t + (upd Q r L (srow t)).length + _ = msum Q t + (Q (srow t)).length + _
    have hu : srow t = t / 2 * 4 + t % 2 := rfl
    by_cases e : srow t = r
    · rw [if_neg (by omega), if_neg (by omega)] at ih
      rw [if_pos (by omega), if_pos (by omega), e, upd_same]
      omega
    · rw [upd_ne _ _ e]
      by_cases c : r / 4 * 2 + r % 2 < t
      · rw [if_pos c, if_pos c] at ih; rw [if_pos (by omega), if_pos (by omega)]; omega
      · rw [if_neg c, if_neg c] at ih; rw [if_neg (by omega), if_neg (by omega)]; omega
theorem uns_put (hr : r % 4 < 2) (x : Int) (t : Nat) : uns (putQ Q r x) t = uns (delQ Q x) t := uns_upd hr t
theorem msum_put (hr : r % 4 < 2) (hr2 : r < 64) (x : Int) : msum (putQ Q r x) 32 = msum (delQ Q x) 32 + 1 := by
  have := msum_upd (Q := delQ Q x) (L := delQ Q x r ++ [x]) hr 32
  rw [if_pos (by omega), if_pos (by omega), List.length_append, List.length_singleton] at this
  unfold putQ
  omega
theorem uns_beg : ∀ t, t ≤ 32 → uns (begQ Q) t = uns Q t + msum Q t
  | 0, _ => rfl
  | t + 1, ht => by
    show uns (begQ Q) t + (begQ Q (urow t)).length = uns Q t + (Q (urow t)).length + (msum Q t + (Q (srow t)).length)
    have hu : urow t = t / 2 * 4 + 2 + t % 2 := rfl
    have hs : srow t = t / 2 * 4 + t % 2 := rfl
    have e : begQ Q (urow t) = Q (urow t) ++ Q (srow t) := by
      unfold begQ begT
      rw [if_pos (by omega), if_neg (by omega), show urow t - 2 = srow t by omega]
    rw [uns_beg t (by omega), e, List.length_append]
    omega
theorem msum_beg : ∀ t, t ≤ 32 → msum (begQ Q) t = 0
  | 0, _ => rfl
  | t + 1, ht => by
    show msum (begQ Q) t + (begQ Q (srow t)).length = 0
    have hs : srow t = t / 2 * 4 + t % 2 := rfl
    have e : begQ Q (srow t) = [] := by
      unfold begQ begT
      rw [if_pos (by omega), if_pos (by omega)]
    rw [msum_beg t (by omega), e]; rfl
theorem apart_nil : Apart (fun _ => []) := ⟨fun _ => List.nodup_nil, fun _ _ _ h => (by cases h), fun _ _ => rfl⟩
theorem uns_nil : ∀ t, uns (fun _ => []) t = 0
  | 0 => rfl
  | t + 1 => uns_nil t
theorem msum_nil : ∀ t, msum (fun _ => []) t = 0
  | 0 => rfl
  | t + 1 => msum_nil t
/-- Put in a row of its own class and taken again at once. -/
theorem take_put (k : Nat) (x : Int) : takeA (putQ Q (k * 4) x) k = (x, false, true) ∧ takeQ (putQ Q (k * 4) x) k = delQ Q x := by
  have e : putQ Q (k * 4) x (k * 4) = delQ Q x (k * 4) ++ [x] := by unfold putQ; rw [upd_same]
  have e2 : (putQ Q (k * 4) x (k * 4)).getLast? = some x := by rw [e]; simp
  unfold takeA takeQ
  simp only [e2]
  refine ⟨trivial, ?_⟩
  rw [e, List.dropLast_concat]
  funext s
  by_cases hs : s = k * 4
  · subst hs; rw [upd_same]
  · rw [upd_ne _ _ hs]; unfold putQ; rw [upd_ne _ _ hs]
end Ce
end Go.Proofs.Ytejijddhmckgiaa
