/- The document's own Sched: a ring steals of another; what Pick comes to. -/
import Derived.Test.YtpclacaiabbmjaaRSch4
import Derived.Test.YtpclacaiabbmjaaSchedLast
namespace Go.Proofs.Ytpclacaiabbmjaa
open Go.RowKit Go.Lib Fx Ho Gr Rw
set_option linter.unusedVariables false
namespace Dx
open Sd (Rg rg0 rAll ptrs ptrs_len ptrs_at rPut rRow rGet rSteal findR whereV find_some find_none qN getV turnS takeS pickS stealR setT)
variable {S S' : Home} {w w' w1 W : World} {x i j k n q : Nat} {rv rv' lv lv' v : Value} {A A' : List Nat} {R R' : List Rg} {C C' L T : List Int} {H H' : Home} {g t u : Int} {zs : List Int}
/-- Two rings turn at once. -/
theorem rings (h : IsX S w x rv lv A R C) (hi : i < R.length) (hk : k < R.length) (hki : k ≠ i) (r o : Rg) (hr : r.2.length ≤ 256) (ho : o.2.length ≤ 256) (b : Wrote (Ri.both (A.getD i 0) (A.getD k 0)) w (Ri.both (A.getD i 0) (A.getD k 0)) w') (c : ∃ nv kv, Rr.IsR S w' (A.getD i 0) nv kv r.1 r.2) (d : ∃ nv kv, Rr.IsR S w' (A.getD k 0) nv kv o.1 o.2) : IsX S w' x rv lv A ((R.set i r).set k o) C ∧ Wrote (home x rv A) w (home x rv A) w' := by
  have hm : ∀ k', Ri.both (A.getD i 0) (A.getD k 0) k' → home x rv A k' := fun k' hk' => .inr (.inr (hk'.elim (fun e => ⟨i, by rw [h.len]; exact hi, e.symm⟩) (fun e => ⟨k, by rw [h.len]; exact hk, e.symm⟩)))
  have hoS : Off S (Ri.both (A.getD i 0) (A.getD k 0)) := fun k' a e => e.elim (fun e => h.sa i hi (e ▸ a)) (fun e => h.sa k hk (e ▸ a))
  have o1 := h.o2 i hi
  have o2 := h.o2 k hk
  refine ⟨⟨by rw [b.block x (block_lt h.head) (fun e => e.elim (fun e => o1.1 e.symm) (fun e => o2.1 e.symm))]; exact h.head, ?_, by simp [h.len], fun j hj => ?_, h.com.wrote b hoS, h.cap, by simpa using h.one, h.sx, by simpa using h.sa, h.o1, by simpa using h.o2, h.sr, fun j hj => ?_⟩, ⟨b.os, b.tape, b.output, b.size, fun k' hk' hn => b.block k' hk' (fun e => hn (hm k' e)), fun k' hk' => .inl hk'⟩⟩
  · simp only [List.length_set]
    exact h.row.wrote b (fun k' hk' e => e.elim (fun e => o1.2 (by rw [← e]; exact hk')) (fun e => o2.2 (by rw [← e]; exact hk')))
  · simp only [List.length_set] at hj
    by_cases ek : k = j
    · subst ek
      rw [gset_self (by simpa using hk)]; exact d
    · rw [gset_ne ek]
      by_cases ei : i = j
      · subst ei
        rw [gset_self hi]; exact c
      · rw [gset_ne ei]
        obtain ⟨nv, kv, h1⟩ := h.rg j hj
        exact ⟨nv, kv, h1.wrote b (fun e => e.elim (fun e => ei (h.one i j hi hj e.symm)) (fun e => ek (h.one k j hk hj e.symm))) hoS⟩
  · simp only [List.length_set] at hj
    by_cases ek : k = j
    · subst ek
      rw [gset_self (by simpa using hk)]; exact ho
    · rw [gset_ne ek]
      by_cases ei : i = j
      · subst ei
        rw [gset_self hi]; exact hr
      · rw [gset_ne ei]; exact h.sm j hj
theorem set_back (hi : i < R.length) (hk : k < R.length) (hki : k ≠ i) : (R.set i (R.getD i rg0)).set k (R.getD k rg0) = R := by
  rw [set_self hi, set_self hk]
/-- Ring i steals of ring k. -/
theorem ring_steal (h : IsX S w x rv lv A R C) (hi : i < R.length) (hk : k < R.length) (hki : k ≠ i) : Calls Try.prog 69 #[.pointer (some ⟨A.getD i 0, 0, none⟩), .pointer (some ⟨A.getD k 0, 0, none⟩)] w fun e w1 => ∃ z : Int, e = .returned (.int .i64 z) ∧ Wrote (home x rv A) w (home x rv A) w1 ∧ IsX (nS S w) w1 x rv lv A ((R.set i (rSteal (R.getD i rg0) (R.getD k rg0)).1).set k (rSteal (R.getD i rg0) (R.getD k rg0)).2) C := by
  have hu := h.up
  obtain ⟨nv, kv, h1⟩ := hu.rg i hi
  obtain ⟨mv, mk, h2⟩ := hu.rg k hk
  have s1 := h.sm i hi
  have s2 := h.sm k hk
  have hne : A.getD i 0 ≠ A.getD k 0 := fun e => hki (h.one i k hi hk e).symm
  have hS : ∀ k, w.heap.size ≤ k → nS S w k := fun k hk => .inr hk
  have hstill : rSteal (R.getD i rg0) (R.getD k rg0) = (R.getD i rg0, R.getD k rg0) → ∀ {e : Ending} {w1 : World}, Still (.int .i64 0) w e w1 → ∃ z : Int, e = .returned (.int .i64 z) ∧ Wrote (home x rv A) w (home x rv A) w1 ∧ IsX (nS S w) w1 x rv lv A ((R.set i (rSteal (R.getD i rg0) (R.getD k rg0)).1).set k (rSteal (R.getD i rg0) (R.getD k rg0)).2) C := fun e0 e w1 ⟨he, hw⟩ => by
    rw [e0]
    subst hw
    refine ⟨0, he, Wrote.refl _ _, ?_⟩
    show IsX (nS S w) w x rv lv A ((R.set i (R.getD i rg0)).set k (R.getD k rg0)) C
    rw [set_back hi hk hki]; exact hu
  obtain ⟨r, hr⟩ : ∃ r, R.getD i rg0 = r := ⟨_, rfl⟩
  obtain ⟨o, ho⟩ : ∃ o, R.getD k rg0 = o := ⟨_, rfl⟩
  rw [hr] at h1 s1 hstill ⊢
  rw [ho] at h2 s2 hstill ⊢
  have key : ∀ {z : Int} {nx ny : Option Int} {L M : List Int} {e : Ending} {w1 : World}, L.length ≤ 256 → M.length ≤ 256 → rSteal r o = ((nx, L), (ny, M)) → Rr.Stole (nS S w) (.int .i64 z) w (A.getD i 0) (A.getD k 0) nx L ny M e w1 → ∃ z : Int, e = .returned (.int .i64 z) ∧ Wrote (home x rv A) w (home x rv A) w1 ∧ IsX (nS S w) w1 x rv lv A ((R.set i (rSteal r o).1).set k (rSteal r o).2) C := fun {z nx ny L M e w1} hL hM e0 ⟨n1, l1, m1, k1, he, hw, g1, g2⟩ => by
    rw [e0]
    obtain ⟨g3, g4⟩ := rings hu hi hk hki (nx, L) (ny, M) hL hM hw ⟨_, _, g1⟩ ⟨_, _, g2⟩
    exact ⟨z, he, g4, g3⟩
  obtain ⟨nx, L⟩ := r
  obtain ⟨ny, M⟩ := o
  simp only at h1 h2 s1 s2
  cases M with
  | nil =>
    cases ny with
    | none => exact (Rr.rsteal_no hne h1 h2 (.inl rfl)).mono fun e w1 hh => hstill (by unfold rSteal; simp) hh
    | some y =>
      by_cases hl : L.length < 256
      · exact (Rr.rsteal_next hne hl h1 h2 (hu.sa i hi) (hu.sa k hk) hS).mono fun e w1 hh => key (by rw [List.length_append]; show L.length + 1 ≤ 256; omega) (by show 0 ≤ 256; omega) (by unfold rSteal; simp [hl]) hh
      · exact (Rr.rsteal_no hne h1 h2 (.inr (by omega))).mono fun e w1 hh => hstill (by unfold rSteal; simp [hl]) hh
  | cons m M =>
    exact (Rr.rsteal_row hne s1 (by simp) s2 rfl h1 h2 (hu.sa i hi) (hu.sa k hk) hS).mono fun e w1 hh => key (by rw [List.length_append, List.length_take]; omega) (by rw [List.length_drop]; omega) (by first | rfl | (unfold rSteal; simp)) hh
/-- What Pick comes to: the common queue first, its own ring, a share of the common queue, a victim. -/
theorem pick_first (ht : t ≠ 0) (ht2 : t.tmod 61 = 0) (hn : R.length ≠ 0) : pickS R (g :: T) i t u = (some g, R, T) := by
  have hq : qN (g :: T) R.length 1 = 1 := by unfold qN; simp <;> omega
  have h1 : turnS R (g :: T) i t = (some g, R, T) := by
    unfold turnS
    rw [if_neg (by simp [ht, ht2])]
    unfold takeS
    rw [hq]; rfl
  unfold pickS
  rw [h1]
theorem turn_no (h : t = 0 ∨ t.tmod 61 ≠ 0 ∨ C = []) : (turnS R C i t).1 = none := by
  unfold turnS
  by_cases h1 : t = 0 ∨ t.tmod 61 ≠ 0
  · rw [if_pos h1]
  · rw [if_neg h1]
    have : C = [] := by rcases h with h | h | h
                        · exact absurd (.inl h) h1
                        · exact absurd (.inr h) h1
                        · exact h
    subst this
    unfold takeS
    rw [show ([] : List Int).take _ = [] from List.take_nil]
theorem pick_own (h : t = 0 ∨ t.tmod 61 ≠ 0 ∨ C = []) (h2 : rAll (R.getD i rg0) = g :: L) : pickS R C i t u = (some g, R.set i (none, L), C) := by
  have h1 := turn_no (R := R) (i := i) h
  have h3 : rGet (R.getD i rg0) = (some g, (none, L)) := by unfold rGet; rw [h2]
  unfold pickS
  obtain ⟨b, c, hT⟩ : ∃ b c, turnS R C i t = (none, b, c) := ⟨_, _, Prod.ext h1 rfl⟩
  rw [hT]
  simp only [h3]
theorem get_empty {r : Rg} (h : rAll r = []) : rGet r = (none, r) := by unfold rGet; rw [h]
theorem pick_take (h : t = 0 ∨ t.tmod 61 ≠ 0 ∨ C = []) (h2 : rAll (R.getD i rg0) = []) (h3 : C.take (qN C R.length 64) = g :: T) : pickS R C i t u = (some g, setT R i T, C.drop (qN C R.length 64)) := by
  have h1 := turn_no (R := R) (i := i) h
  have h4 := get_empty h2
  have h5 : takeS R C i 64 = (some g, setT R i T, C.drop (qN C R.length 64)) := by unfold takeS; rw [h3]
  unfold pickS
  obtain ⟨b, c, hT⟩ : ∃ b c, turnS R C i t = (none, b, c) := ⟨_, _, Prod.ext h1 rfl⟩
  rw [hT]
  simp only [h4, h5]
theorem pick_last (h2 : rAll (R.getD i rg0) = []) : pickS R [] i t u = ((rGet ((stealR R i u).getD i rg0)).1, (stealR R i u).set i (rGet ((stealR R i u).getD i rg0)).2, []) := by
  have h1 := turn_no (R := R) (i := i) (C := []) (t := t) (.inr (.inr rfl))
  have h4 := get_empty h2
  have h5 : takeS R [] i 64 = (none, R, []) := by unfold takeS; rw [show ([] : List Int).take _ = [] from List.take_nil]
  unfold pickS
  obtain ⟨b, c, hT⟩ : ∃ b c, turnS R [] i t = (none, b, c) := ⟨_, _, Prod.ext h1 rfl⟩
  rw [hT]
  simp only [h4, h5]
end Dx
end Go.Proofs.Ytpclacaiabbmjaa
