/- Two runs in each other's place. -/
import Derived.Test.YtbheabjemaaeoabPileG
namespace Go.Proofs.Ytbheabjemaaeoab
open Go.RowKit Go.Lib Fx Ho Gr
set_option linter.unusedVariables false
namespace Pg
open Hm
variable {w w' : World} {P : Nat} {v : Value} {L M : List Rn}
theorem mem_swp {i j : Nat} (hi : i < L.length) (hj : j < L.length) (r : Rn) : r ∈ swp Rn.rn0 L i j ↔ r ∈ L := (swp_perm L hi hj).mem_iff
theorem home_perm (h : M.Perm L) : ∀ k, home v M k ↔ home v L k := fun k => by
  unfold home
  constructor
  · rintro (h1 | ⟨r, h1, h2⟩)
    · exact .inl h1
    · exact .inr ⟨r, h.mem_iff.1 h1, h2⟩
  · rintro (h1 | ⟨r, h1, h2⟩)
    · exact .inl h1
    · exact .inr ⟨r, h.mem_iff.2 h1, h2⟩
theorem wr1 (w : World) (b o : Nat) (u : Value) : Wrote (fun k => k = b) w (fun k => k = b) (w.setCell ⟨b, o, none⟩ u) := wrote_setCell (a := ⟨b, o, none⟩) rfl rfl (by simp) rfl rfl
theorem wider {H H' : Home} (h : Wrote H w H w') (hs : ∀ k, H k → H' k) : Wrote H' w H' w' := ⟨h.os, h.tape, h.output, h.size, fun k hk hn => h.block k hk (fun e => hn (hs k e)), fun k hk => .inl hk⟩
/-- The row's two pointers, and the two runs' places. -/
theorem swp_done {b off cap n i j : Nat} (h : IsG w P (.slice (some ⟨b, off, none⟩) n cap) L) (hn : L.length = n) (hi : i < n) (hj : j < n) (k m : Nat) :
    IsG ((((((w.setCell ⟨b, off + i, none⟩ (.pointer (some ⟨(L.getD j Rn.rn0).2.2, 0, none⟩))).setCell ⟨b, off + j, none⟩ (.pointer (some ⟨(L.getD i Rn.rn0).2.2, 0, none⟩))).drewN k).setCell ⟨(L.getD j Rn.rn0).2.2, 2, none⟩ (.int .i64 i)).setCell ⟨(L.getD i Rn.rn0).2.2, 2, none⟩ (.int .i64 j)).drewN m) P (.slice (some ⟨b, off, none⟩) n cap) (swp Rn.rn0 L i j) ∧
    Wrote (home (.slice (some ⟨b, off, none⟩) n cap) L) w (home (.slice (some ⟨b, off, none⟩) n cap) L) ((((((w.setCell ⟨b, off + i, none⟩ (.pointer (some ⟨(L.getD j Rn.rn0).2.2, 0, none⟩))).setCell ⟨b, off + j, none⟩ (.pointer (some ⟨(L.getD i Rn.rn0).2.2, 0, none⟩))).drewN k).setCell ⟨(L.getD j Rn.rn0).2.2, 2, none⟩ (.int .i64 i)).setCell ⟨(L.getD i Rn.rn0).2.2, 2, none⟩ (.int .i64 j)).drewN m) := by
  have hi' : i < L.length := by omega
  have hj' : j < L.length := by omega
  have hbi := h.offb _ (mem_at hi')
  have hbj := h.offb _ (mem_at hj')
  have hPb : P ≠ b := fun e => h.off (by rw [e]; rfl)
  have ebi : (L.getD i Rn.rn0).2.2 ≠ b := fun e => hbi.1 (by rw [e]; rfl)
  have ebj : (L.getD j Rn.rn0).2.2 ≠ b := fun e => hbj.1 (by rw [e]; rfl)
  have hb1 : ∀ r, r ∈ L → r.2.2 ≠ b := fun r hr e => (h.offb r hr).1 (by rw [e]; rfl)
  have r0 : GRow 1 w (.slice (some ⟨b, off, none⟩) n cap) n (ps L) := by have := h.row; rwa [hn] at this
  have r1 := r0.set (u := .pointer (some ⟨(L.getD j Rn.rn0).2.2, 0, none⟩)) (j := i) (by omega)
  have r2 := r1.set (u := .pointer (some ⟨(L.getD i Rn.rn0).2.2, 0, none⟩)) (j := j) (by omega)
  rw [ps_set, ps_set] at r2
  have w1 := wr1 w b (off + i) (.pointer (some ⟨(L.getD j Rn.rn0).2.2, 0, none⟩))
  generalize hW1 : w.setCell ⟨b, off + i, none⟩ (.pointer (some ⟨(L.getD j Rn.rn0).2.2, 0, none⟩)) = W1 at *
  have w2 := wr1 W1 b (off + j) (.pointer (some ⟨(L.getD i Rn.rn0).2.2, 0, none⟩))
  generalize hW2 : W1.setCell ⟨b, off + j, none⟩ (.pointer (some ⟨(L.getD i Rn.rn0).2.2, 0, none⟩)) = W2 at *
  have w3 := (w1.trans w2).drewN k
  have r3 := r2.below (below_drewN (Below.refl _ _) k)
  generalize hW3 : W2.drewN k = W3 at *
  have w4 := wr1 W3 (L.getD j Rn.rn0).2.2 2 (.int .i64 i)
  have b3 : ∀ q, q < L.length → W3.heap[(L.getD q Rn.rn0).2.2]? = some (robj (L.getD q Rn.rn0) q) := fun q hq => (w3.block _ (h.blt (mem_at hq)) (hb1 _ (mem_at hq))).trans (h.at_ q hq)
  have c4 : (W3.setCell ⟨(L.getD j Rn.rn0).2.2, 2, none⟩ (.int .i64 i)).heap[(L.getD j Rn.rn0).2.2]? = some (robj (L.getD j Rn.rn0) i) := by
    rw [heap_setCell_same _ _ 2 _ _ _ (b3 j hj')]; rfl
  generalize hW4 : W3.setCell ⟨(L.getD j Rn.rn0).2.2, 2, none⟩ (.int .i64 i) = W4 at *
  have w5 := wr1 W4 (L.getD i Rn.rn0).2.2 2 (.int .i64 j)
  have b4 : ∀ q, q < L.length → q ≠ j → W4.heap[(L.getD q Rn.rn0).2.2]? = some (robj (L.getD q Rn.rn0) q) := fun q hq hqj => (w4.block _ (block_lt (b3 q hq)) (fun e => hqj (h.one q j hq hj' e))).trans (b3 q hq)
  have c5 : (W4.setCell ⟨(L.getD i Rn.rn0).2.2, 2, none⟩ (.int .i64 j)).heap[(L.getD i Rn.rn0).2.2]? = some (robj (L.getD i Rn.rn0) j) := by
    by_cases e : i = j
    · subst e; rw [heap_setCell_same _ _ 2 _ _ _ c4]; rfl
    · rw [heap_setCell_same _ _ 2 _ _ _ (b4 i hi' e)]; rfl
  have c5j : i ≠ j → (W4.setCell ⟨(L.getD i Rn.rn0).2.2, 2, none⟩ (.int .i64 j)).heap[(L.getD j Rn.rn0).2.2]? = some (robj (L.getD j Rn.rn0) i) := fun e => (w5.block _ (block_lt c4) (fun e2 => e (h.one i j hi' hj' e2.symm))).trans c4
  have b5 : ∀ q, q < L.length → q ≠ j → q ≠ i → (W4.setCell ⟨(L.getD i Rn.rn0).2.2, 2, none⟩ (.int .i64 j)).heap[(L.getD q Rn.rn0).2.2]? = some (robj (L.getD q Rn.rn0) q) := fun q hq hqj hqi => (w5.block _ (block_lt (b4 q hq hqj)) (fun e => hqi (h.one q i hq hi' e))).trans (b4 q hq hqj)
  generalize hW5 : W4.setCell ⟨(L.getD i Rn.rn0).2.2, 2, none⟩ (.int .i64 j) = W5 at *
  have hall : Wrote (home (.slice (some ⟨b, off, none⟩) n cap) L) w (home (.slice (some ⟨b, off, none⟩) n cap) L) W5 :=
    ((wider w3 (fun k e => .inl (by rw [show k = b from e]; rfl))).trans (wider w4 (fun k e => .inr ⟨_, mem_at hj', e.symm⟩))).trans (wider w5 (fun k e => .inr ⟨_, mem_at hi', e.symm⟩))
  refine ⟨?_, hall.drewN m⟩
  have hPh : ¬ home (.slice (some ⟨b, off, none⟩) n cap) L P := fun hh => hh.elim h.off (fun ⟨r, hr, e⟩ => (h.offb r hr).2 e)
  have hlen : (swp Rn.rn0 L i j).length = n := by rw [swp_len]; exact hn
  have r5 : GRow 1 W5 (.slice (some ⟨b, off, none⟩) n cap) n (ps (swp Rn.rn0 L i j)) := (r3.wrote w4 (fun k hk e => ebj (by have h1 : b = k := Option.some.inj hk; have h2 : k = _ := e; omega))).wrote w5 (fun k hk e => ebi (by have h1 : b = k := Option.some.inj hk; have h2 : k = _ := e; omega))
  have : IsG W5 P (.slice (some ⟨b, off, none⟩) n cap) (swp Rn.rn0 L i j) := by
    refine ⟨hall.cell h.cell hPh, by rw [World.frozen?_of_block (a := ⟨P, 1, none⟩) (hall.block P h.lt hPh)]; exact h.free, Nat.lt_of_lt_of_le h.lt hall.size, by rw [hlen]; exact r5, fun q hq => ?_, h.off, fun r hr => h.offb r ((mem_swp hi' hj' r).1 hr), fun p q hp hq e => ?_, by rw [hlen]; have := h.small; omega⟩
    · rw [swp_len] at hq
      rw [swp_get _ hi' hj' q]
      by_cases e1 : q = j
      · rw [if_pos e1, e1]; exact c5
      · rw [if_neg e1]
        by_cases e2 : q = i
        · rw [if_pos e2, e2]; exact c5j (fun e => e1 (by omega))
        · rw [if_neg e2]; exact b5 q hq e1 e2
    · rw [swp_len] at hp hq
      rw [swp_get _ hi' hj' p, swp_get _ hi' hj' q] at e
      by_cases p1 : p = j
      · rw [if_pos p1] at e
        by_cases q1 : q = j
        · omega
        · rw [if_neg q1] at e
          by_cases q2 : q = i
          · rw [if_pos q2] at e; have := h.one i j hi' hj' e; omega
          · rw [if_neg q2] at e; have := h.one i q hi' hq e; omega
      · rw [if_neg p1] at e
        by_cases p2 : p = i
        · rw [if_pos p2] at e
          by_cases q1 : q = j
          · rw [if_pos q1] at e; have := h.one j i hj' hi' e; omega
          · rw [if_neg q1] at e
            by_cases q2 : q = i
            · omega
            · rw [if_neg q2] at e; have := h.one j q hj' hq e; omega
        · rw [if_neg p2] at e
          by_cases q1 : q = j
          · rw [if_pos q1] at e; have := h.one p i hp hi' e; omega
          · rw [if_neg q1] at e
            by_cases q2 : q = i
            · rw [if_pos q2] at e; have := h.one p j hp hj' e; omega
            · rw [if_neg q2] at e; exact h.one p q hp hq e
  exact this.below (below_drewN (Below.refl _ _) m)
set_option maxRecDepth 100000 in
set_option maxHeartbeats 4000000 in
theorem swap_any (h : IsG w P v L) {i j : Nat} (hi : i < L.length) (hj : j < L.length) : Calls Try.prog 71 #[v, .int .i64 i, .int .i64 j] w (fun e w' => e = .returned (.tuple #[]) ∧ Hid (IsG w' P v (swp Rn.rn0 L i j)) ∧ Hid (Wrote (home v L) w (home v L) w')) := by
  have h0 := h
  obtain ⟨b, off, cap, rfl, hle, hm, hbl, hc⟩ := h.place hi
  obtain ⟨c0, f0⟩ := hc i hi
  obtain ⟨d0, g0⟩ := hc j hj
  obtain ⟨_, _, c2, f2⟩ := h.cells hi
  obtain ⟨_, _, d2, g2⟩ := h.cells hj
  have hbi := h.offb _ (mem_at hi)
  have hbj := h.offb _ (mem_at hj)
  have ebi : ¬ (L.getD i Rn.rn0).2.2 = b := fun e => hbi.1 (by rw [e]; rfl)
  have ebj : ¬ (L.getD j Rn.rn0).2.2 = b := fun e => hbj.1 (by rw [e]; rfl)
  have eb : ¬ b = (L.getD i Rn.rn0).2.2 := fun e => ebi e.symm
  have eb2 : ¬ b = (L.getD j Rn.rn0).2.2 := fun e => ebj e.symm
  have hfin := Lib.hid (fun k m => swp_done h0 rfl hi hj k m)
  have hone := h.one i j hi hj
  generalize (L.getD i Rn.rn0).2.2 = x2 at *
  generalize (L.getD j Rn.rn0).2.2 = y2 at *
  generalize hn : L.length = n at *
  have i0 : (0 : Int) ≤ (i : Int) := by omega
  have j0 : (0 : Int) ≤ (j : Int) := by omega
  have i1 : (i : Int) < (n : Int) := by omega
  have j1 : (j : Int) < (n : Int) := by omega
  clear hc h h0 hn hbi hbj
  by_cases hij : i = j
  · subst hij
    obtain rfl : x2 = y2 := by rw [c0] at d0; cases d0; rfl
    clear hone
    go_enter Try.func71, Try.ntmps71
    go_wp2_with fail
    go_region
    go_wp2_with fail
    go_region
    go_end0
    exact ⟨rfl, Lib.hid (hfin.out 1 1).1, Lib.hid (hfin.out 1 1).2⟩
  · have hxy : ¬ x2 = y2 := fun e => hij (hone e)
    have hyx : ¬ y2 = x2 := fun e => hij (hone e.symm)
    have hoff : ¬ off + i = off + j := by omega
    have hoff2 : ¬ off + j = off + i := by omega
    clear hone
    go_enter Try.func71, Try.ntmps71
    go_wp2_with fail
    go_region
    go_wp2_with fail
    go_region
    go_end0
    exact ⟨rfl, Lib.hid (hfin.out 1 1).1, Lib.hid (hfin.out 1 1).2⟩
end Pg
end Go.Proofs.Ytbheabjemaaeoab
