/- The document's own Sched: Pick out of the common queue, out of a victim's ring. -/
import Derived.Test.YtpclacaiabbmjaaRSch6
namespace Go.Proofs.Ytpclacaiabbmjaa
open Go.RowKit Go.Lib Fx Ho Gr Rw
set_option linter.unusedVariables false
namespace Dx
open Sd (Rg rg0 rAll ptrs ptrs_len ptrs_at rPut rRow rGet rSteal findR whereV find_some find_none qN getV turnS takeS pickS stealR stealR_len setT setT_len setT_get setT_more get_pair)
variable {S S' : Home} {w w' w1 W wr : World} {x i j k n q : Nat} {rv rv' lv lv' v : Value} {A A' : List Nat} {R R' : List Rg} {C C' L T : List Int} {H H' : Home} {g t u : Int} {zs : List Int}
/-- Behind k of those that come along. -/
def LS (S : Home) (w : World) (x : Nat) (rv : Value) (A : List Nat) (R : List Rg) (C : List Int) (i : Nat) (T : List Int) (l : Value) (g : Int) (k : Nat) (wr : World) : Prop := ∃ Sk lvk, IsX Sk wr x rv lvk A (setT R i (T.take k)) C ∧ (∀ j, Sk j → nS S w j) ∧ Wrote (home x rv A) w (home x rv A) wr ∧ Ints wr Sk l (g :: T)
theorem LS.below {l : Value} (h : LS S w x rv A R C i T l g k wr) (hb : Below wr.heap.size wr w') : LS S w x rv A R C i T l g k w' := by
  obtain ⟨Sk, lvk, h1, h2, h3, h4⟩ := h
  exact ⟨Sk, lvk, h1.below hb, h2, h3.trans (Wrote.of_below hb), h4.below hb⟩
/-- What the walk reads of them. -/
def LC (x : Nat) (rv l : Value) (a i : Nat) (T : List Int) (k : Nat) (W : World) : Prop := W.cell? ⟨x, 0, none⟩ = some rv ∧ (∀ b off n c, rv = .slice (some ⟨b, off, none⟩) n c → W.cell? ⟨b, off + i, none⟩ = some (.pointer (some ⟨a, 0, none⟩))) ∧ ∀ b off n c, l = .slice (some ⟨b, off, none⟩) n c → W.cell? ⟨b, off + (k + 1), none⟩ = some (.int .i64 (T.getD k 0))
theorem lc_of {l : Value} (h : IsX S w x rv lv A R C) (hi : i < R.length) (h4 : Ints w S' l (g :: T)) (hk : k < T.length) : LC x rv l (A.getD i 0) i T k w := by
  refine ⟨h.cs.1, fun b off n c e => ?_, fun b off n c e => ?_⟩
  · obtain ⟨b2, off2, cap, e2, _, _, c2, _⟩ := h.place hi
    rw [e] at e2
    cases e2
    exact c2
  · obtain ⟨sp, c', e2, _, hc⟩ := h4
    rw [e] at e2
    cases e2
    obtain ⟨b3, off3, e3, _, _, h6⟩ := hc (k + 1) (by simp; omega)
    cases e3
    exact h6
theorem LS.lc {l : Value} (h : LS S w x rv A R C i T l g k wr) (hi : i < R.length) (hk : k < T.length) : LC x rv l (A.getD i 0) i T k wr := by
  obtain ⟨Sk, lvk, h1, h2, h3, h4⟩ := h
  exact lc_of h1 (by rw [setT_len]; exact hi) h4 hk
theorem LS.end_ {l : Value} (h : LS S w x rv A R C i T l g T.length wr) : XS S v w x rv A (setT R i T) C (.returned v) wr := by
  obtain ⟨Sk, lvk, h1, h2, h3, h4⟩ := h
  rw [List.take_length] at h1
  exact ⟨rfl, Sk, rv, lvk, A, h2, h3, h1⟩
theorem off_home' (h : IsX S w x rv lv A R C) : Off S (home x rv A) := fun k h1 h2 => h.off_home h2 h1
theorem LS.step {l : Value} (h : LS S w x rv A R C i T l g k wr) (hi : i < R.length) (h0 : R.getD i rg0 = rg0) (hk : k < T.length) (hT : T.length ≤ 64) (hC : C.length ≤ 800000) : Calls Try.prog 62 #[.pointer (some ⟨A.getD i 0, 0, none⟩), .int .i64 (T.getD k 0), .bool false] wr (fun e w1 => ∃ s c, e = .returned (.slice s 0 c) ∧ LC x rv l (A.getD i 0) i T k w1 ∧ Hid (∀ V, Below w1.heap.size w1 V → Calls Try.prog 17 #[.pointer (some ⟨x, 0, none⟩), .slice s 0 c] V (fun e w2 => e = .returned (.tuple #[]) ∧ LC x rv l (A.getD i 0) i T k w2 ∧ Hid (LS S w x rv A R C i T l g (k + 1) w2)))) := by
  obtain ⟨Sk, lvk, h1, h2, h3, h4⟩ := h
  have hset := setT_get (T := T.take k) hi (fun _ => h0)
  have cp := ring_put h1 (i := i) (by rw [setT_len]; exact hi) (T.getD k 0) false
  rw [hset] at cp
  have hput : rPut (none, T.take k) (T.getD k 0) false = ((none, T.take k ++ [T.getD k 0]), []) := by
    show rRow none (T.take k) (T.getD k 0) = _
    unfold rRow
    rw [if_pos (by rw [List.length_take]; omega)]
  have htk : T.take k ++ [T.getD k 0] = T.take (k + 1) := by
    rw [List.take_succ_eq_append_getElem hk, List.getD_eq_getElem?_getD, List.getElem?_eq_getElem hk]; rfl
  rw [hput, setT_more hi] at cp
  simp only [htk] at cp
  refine cp.mono fun e w1 ⟨v', he, g1, g2, g3⟩ => ?_
  obtain ⟨s, c, e9, _⟩ := id g3
  subst e9
  have hl1 := h4.wrote g1 (off_home' h1)
  have hi2 : i < (setT R i (T.take (k + 1))).length := by rw [setT_len]; exact hi
  refine ⟨s, c, he, lc_of g2 hi2 hl1 hk, Lib.hid fun V hV => (global_at (g2.below hV) (g3.below hV) (by simp; omega)).mono fun e w2 ⟨he2, v1, g4, g5⟩ => ?_⟩
  rw [List.append_nil] at g5
  have hw := (g1.trans (Wrote.of_below hV)).trans g4
  have hl2 := h4.wrote hw (off_home' h1)
  refine ⟨he2, lc_of g5 hi2 hl2 hk, Lib.hid ⟨_, v1, g5, fun j hj => ?_, h3.trans hw, hl2.wider (fun j hj _ => .inl (.inl hj))⟩⟩
  have s1 := h3.size
  have s2 := g1.size
  have s3 := hV.size
  rcases hj with (hj | hj) | hj
  · exact h2 j hj
  · exact .inr (by omega)
  · exact .inr (by omega)
/-- A ring of none gets nobody. -/
theorem ring_none (h : IsX S w x rv lv A R C) (hi : i < R.length) (hr : rAll (R.getD i rg0) = []) : R.getD i rg0 = rg0 ∧ Calls Try.prog 67 #[.pointer (some ⟨A.getD i 0, 0, none⟩)] w (Still (.tuple #[.int .i64 0, .bool false]) w) := by
  have e := (Sd.rget_none (r := R.getD i rg0) (by unfold rGet; rw [hr])).1
  obtain ⟨nv, kv, hr2⟩ := h.rg i hi
  rw [e] at hr2
  exact ⟨e, (Rr.rget_none hr2).mono fun e w1 ⟨he, hw⟩ => ⟨he, hw⟩⟩
theorem turn_facts (ht : t = 0 ∨ t.tmod 61 ≠ 0 ∨ C = []) : t = 0 ∨ (((t == 0) = false ∧ (t != 0) = true) ∧ ∃ q, t.tmod 61 = q ∧ (((q == 0) = false ∧ (q != 0) = true) ∨ (q = 0 ∧ C = []))) := by
  by_cases t0 : t = 0
  · exact .inl t0
  · have b1 : (t == 0) = false := by rw [beq_eq_false_iff_ne]; exact t0
    refine .inr ⟨⟨b1, by simp [bne, b1]⟩, _, rfl, ?_⟩
    by_cases q0 : t.tmod 61 = 0
    · exact .inr ⟨q0, ht.elim (fun e => absurd e t0) (fun e => e.elim (fun e => absurd q0 e) id)⟩
    · have b3 : (t.tmod 61 == 0) = false := by rw [beq_eq_false_iff_ne]; exact q0
      exact .inl ⟨b3, by simp [bne, b3]⟩
end Dx
end Go.Proofs.Ytpclacaiabbmjaa
