/- Objects bit by bit: what is not 0 of the slots that a function value loads. -/
import Derived.Test.YtgmcimhlkccfdaaRow
import Derived.Outline
import Derived.Deep.RegionWith
namespace Go.Proofs.Ytgmcimhlkccfdaa
open Go.RowKit Go.Lib Fx Ho Qu Rw
set_option linter.unusedVariables false
namespace Sc
variable {w w' : World}
/-- What is not 0 of the numbers S i, i from a on, b of them. -/
def some0 (S : Nat → Int) (a : Nat) : Nat → List Int
  | 0 => []
  | b + 1 => if S (a + b) = 0 then some0 S a b else some0 S a b ++ [S (a + b)]
theorem some0_len (S : Nat → Int) (a : Nat) : ∀ b, (some0 S a b).length ≤ b
  | 0 => Nat.le_refl _
  | b + 1 => by
    have h := some0_len S a b
    unfold some0
    by_cases e : S (a + b) = 0
    · rw [if_pos e]; omega
    · rw [if_neg e, List.length_append, List.length_singleton]; omega
/-- A function value of one slot's number: it answers S i where I i holds, I (i + 1) holds then, and it turns nothing outside of H; I stays where only what lies from lo on turns. -/
structure Loads (F : Nat) (C : Array Value) (S : Nat → Int) (I : Nat → World → Prop) (H : Home) (lo : Nat) (a b : Nat) : Prop where
  call : ∀ i W, a ≤ i → i < a + b → I i W → Calls Try.prog F (#[.int .i64 i] ++ C) W fun e w' => e = .returned (.int .i64 (S i)) ∧ I (i + 1) w' ∧ Wrote H W H w'
  stay : ∀ i W W', I i W → Wrote (fun k => lo ≤ k) W (fun k => lo ≤ k) W' → I i W'
  low : ∀ k, H k → k < lo
  enter : ∀ (args : Array Value) (W : World), Sem.run Try.prog (callFunc F args) W = .ok (.enter F args) W
set_option maxRecDepth 100000 in
set_option maxHeartbeats 1000000 in
theorem named_any {F lo a b : Nat} {C : Array Value} {S : Nat → Int} {I : Nat → World → Prop} {H : Home} (h : Loads F C S I H lo a b) (hlo : lo ≤ w.heap.size) (h0 : I a w) (hb : a + b ≤ 100000) :
    Calls Try.prog 74 #[.int .i64 a, .int .i64 ((a + b : Nat) : Int), .func (.func F) #[] C] w fun e w' => ∃ v, e = .returned v ∧ OffRow w' v (some0 S a b) ∧ Low lo (fun k => v.ownBlock = some k) ∧ I (a + b) w' ∧ Wrote (fun k => H k ∨ lo ≤ k) w (fun k => H k ∨ lo ≤ k) w' := by
  have hent := h.enter
  obtain ⟨m, hm⟩ : ∃ m, a + b = m := ⟨_, rfl⟩
  rw [hm] at hb ⊢
  go_enter Try.func74, Try.ntmps74
  go_wp2_with fail
  go_loopw [7, 8, 9] (fun v i u wr => ∃ (s : Option Addr) (c t j q : Nat), v = .slice s t c ∧ i = .int .i64 q ∧ Hid (a + j = q) ∧ j ≤ b ∧ q ≤ m ∧ lo ≤ wr.heap.size ∧ Hid (OffRow wr (.slice s t c) (some0 S a j)) ∧ Hid (Low lo (fun k => (Value.slice s t c).ownBlock = some k)) ∧ Hid (I q wr) ∧ Hid (Wrote (fun k => H k ∨ lo ≤ k) w (fun k => H k ∨ lo ≤ k) wr)) (fun _ i _ _ => (m - (RowKit.intOf i).toNat))
  case atStart => exact ⟨none, 0, 0, 0, a, rfl, rfl, rfl, by omega, by omega, hlo, Lib.hid (offrow_nil _), Lib.hid (low_nil _), h0, Lib.hid (Wrote.refl _ _)⟩
  case round =>
    obtain ⟨s, c, t, j, q, rfl, rfl, hq, j1, q1, hs, hR, hLo, hI, hW⟩ := hrel
    by_cases hj : q < m
    · have i2 : (q : Int) < (m : Int) := by omega
      have i0 : (0 : Int) ≤ (q : Int) := by omega
      have hjb : j < b := by have := hq.out; omega
      have cc := h.call q wr (by have := hq.out; omega) (by omega) hI.out
      have hl := some0_len S a j
      by_cases hz : S q = 0
      · have hnx : Hid (∀ w2, I (q + 1) w2 → Wrote H wr H w2 → lo ≤ w2.heap.size ∧ Hid (OffRow w2 (.slice s t c) (some0 S a (j + 1))) ∧ Hid (I (q + 1) w2) ∧ Hid (Wrote (fun k => H k ∨ lo ≤ k) w (fun k => H k ∨ lo ≤ k) w2)) := fun w2 h1 h2 => by
          refine ⟨Nat.le_trans hs h2.size, ?_, h1, hW.out.trans ⟨h2.os, h2.tape, h2.output, h2.size, fun k hk hn => h2.block k hk (fun e => hn (Or.inl e)), fun k hk => Or.inl hk⟩⟩
          show OffRow w2 _ (some0 S a (j + 1))
          unfold some0
          rw [if_pos (by rw [hq.out]; exact hz)]
          exact hR.out.wrote h2 (fun k hk e => by have := h.low k e; have := hLo.out k hk; omega)
        rw [hz] at cc
        clear hR hI hW hl hz
        go_wp2_with fail
        with_reducible refine Calls.mono cc ?_
        rintro e w2 ⟨rfl, h1, h2⟩
        obtain ⟨hs2, hR2, hI2, hW2⟩ := hnx.out w2 h1 h2
        clear cc hnx h1 h2
        go_wp2_with fail
        go_roundw
        case rel => exact ⟨s, c, t, j + 1, q + 1, rfl, by go_num, by have := hq.out; show _ = _; omega, by omega, by omega, hs2, hR2, hLo, hI2, hW2⟩
        case measure => simp [RowKit.intOf]; omega
      · have hz2 : (S q == 0) = false := by rw [beq_eq_false_iff_ne]; exact hz
        have hz3 : (S q != 0) = true := by simp [bne, hz2]
        have hnx : Hid (∀ w2, I (q + 1) w2 → Wrote H wr H w2 → lo ≤ (w2.alloc (.cells #[.int .i64 (S q)] 3)).heap.size ∧ Hid (OffRow (w2.alloc (.cells #[.int .i64 (S q)] 3)) (.slice s t c) (some0 S a j)) ∧
            Hid (∀ (w3 : World) (v3 : Value), OffRow w3 v3 (some0 S a j ++ [S q]) → Below lo (w2.alloc (.cells #[.int .i64 (S q)] 3)) w3 → (∃ s c t, v3 = .slice s t c) ∧ lo ≤ w3.heap.size ∧ Hid (OffRow w3 v3 (some0 S a (j + 1))) ∧ Hid (I (q + 1) w3) ∧ Hid (Wrote (fun k => H k ∨ lo ≤ k) w (fun k => H k ∨ lo ≤ k) w3))) := fun w2 h1 h2 => by
          have ha := below_alloc (Below.refl w2.heap.size w2) (.cells #[.int .i64 (S q)] 3)
          have hs2 := Nat.le_trans hs h2.size
          refine ⟨Nat.le_trans hs2 ha.size, off_below (hR.out.wrote h2 (fun k hk e => by have := h.low k e; have := hLo.out k hk; omega)) ha, fun w3 v3 g1 g2 => ?_⟩
          obtain ⟨s3, c3, e3⟩ := g1.slice
          have hb3 : Below lo w2 w3 := (ha.mono hs2).trans g2
          refine ⟨⟨s3, c3, _, e3⟩, Nat.le_trans (Nat.le_trans hs2 ha.size) g2.size, ?_, ?_, ?_⟩
          · show OffRow w3 v3 (some0 S a (j + 1))
            unfold some0
            rw [if_neg (by rw [hq.out]; exact hz), hq.out]; exact g1
          · exact h.stay _ _ _ h1 ⟨hb3.os, hb3.tape, hb3.output, hb3.size, fun k _ hk => hb3.block k (by omega), fun k hk => Or.inl hk⟩
          · exact (hW.out.trans ⟨h2.os, h2.tape, h2.output, h2.size, fun k hk hn => h2.block k hk (fun e => hn (Or.inl e)), fun k hk => Or.inl hk⟩).trans ⟨hb3.os, hb3.tape, hb3.output, hb3.size, fun k _ hk => hb3.block k (by have := fun e => hk (Or.inr e); omega), fun k hk => Or.inl hk⟩
        have hbd : (some0 S a j).length + 1 ≤ 1000000 := by omega
        clear hR hI hW hl hz
        generalize S q = x at *
        go_wp2_with fail
        with_reducible refine Calls.mono cc ?_
        rintro e w2 ⟨rfl, h1, h2⟩
        obtain ⟨hs2, hR2, hnx2⟩ := hnx.out w2 h1 h2
        clear cc hnx h1 h2
        go_wp2_with (at_builtin; refine wpList_append_low rfl (.tmp 21) (.tmp 23) rfl rfl lo hR2.out hLo.out hs2 rfl rfl (src_one w2 x) hbd ?_; intro v3 w3 g1 g2 g3; have hk := hnx2.out w3 v3 g1 g3; obtain ⟨⟨s3, c3, t3, rfl⟩, hs3, hR3, hI3, hW3⟩ := hk; replace g2 := Lib.hid g2; clear g1 g3 hnx2 hR2 hLo)
        go_roundw
        case rel => exact ⟨s3, c3, t3, j + 1, q + 1, rfl, by go_num, by have := hq.out; show _ = _; omega, by omega, by omega, hs3, hR3, g2, hI3, hW3⟩
        case measure => simp [RowKit.intOf]; omega
    · obtain rfl : q = m := by omega
      obtain rfl : j = b := by have := hq.out; omega
      have i2 : ¬ ((q : Int) < (q : Int)) := by omega
      go_wp2_with fail
      go_ret
      exact ⟨_, rfl, hR.out, hLo.out, hI.out, hW.out⟩
end Sc
end Go.Proofs.Ytgmcimhlkccfdaa
