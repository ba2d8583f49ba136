/- What the law of the pages left keeps. -/
import Derived.Test.YtbheabjemaaeoabPageNil
import Derived.Test.YtbheabjemaaeoabPageBestM
namespace Go.Proofs.Ytbheabjemaaeoab
open Go.RowKit Go.Lib Fx Ho Gr Go.Sort
set_option linter.unusedVariables false
namespace Pg
variable {W0 w w1 w' W : World} {P b n c i j k q K a N p l T : Nat} {v : Value} {L M : List Rn} {H H' : Home} {F : List Bool} {d : Array Pr2} {S : Nat → Int}
/-- What stands at j of a row of runs. -/
def RunFacts (w : World) (n : Nat) (F : List Bool) (b l : Nat) (S : Nat → Int) : Prop := ∀ wx, Below w.heap.size w wx → ∀ j, j < l → ∃ f s : Int, wx.cell? ⟨b, j * 2, none⟩ = some (.int .i64 f) ∧ wx.cell? ⟨b, j * 2 + 1, none⟩ = some (.int .i64 s) ∧ 1 ≤ f ∧ 1 ≤ s ∧ f + s ≤ (n : Int) ∧ IsRun n F f.toNat s.toNat ∧ S (j + 1) = S j + s ∧ 0 ≤ S j ∧ S j ≤ (j : Int) * 300000 ∧
  ∀ j', j = j' + 1 → ∃ f' s' : Int, wx.cell? ⟨b, j' * 2, none⟩ = some (.int .i64 f') ∧ wx.cell? ⟨b, j' * 2 + 1, none⟩ = some (.int .i64 s') ∧ f' + s' < f ∧ 1 ≤ f' ∧ 1 ≤ s'
theorem sum_bound (h : Sorted n F d) (hn : n ≤ 270000) : ∀ j, j ≤ d.size → 0 ≤ sumP (d.toList.take j) ∧ sumP (d.toList.take j) ≤ (j : Int) * 300000
  | 0, _ => by simp [sumP]
  | j + 1, hj => by
    have ih := sum_bound h hn j (by omega)
    have hx := h.at_ (j := j) (by omega)
    rw [sumP_take (by omega)]
    omega
theorem facts_of (h : Sorted n F d) (hn : n ≤ 270000) (hh : HoldsK encR 2 w b 0 d) : RunFacts w n F b d.size (fun j => sumP (d.toList.take j)) := fun wx hb j hj => by
  obtain ⟨c0, c1⟩ := holds_at hh hj
  obtain ⟨h1, h2, h3, h4⟩ := h.at_ hj
  obtain ⟨s0, s1⟩ := sum_bound h hn j (by omega)
  refine ⟨d[j]!.1, d[j]!.2, cell_then hb c0, cell_then hb c1, h1, h2, h3, h4, sumP_take hj, s0, s1, fun j' e => ?_⟩
  subst e
  obtain ⟨c0, c1⟩ := holds_at hh (j := j') (by omega)
  obtain ⟨h1, h2, _⟩ := h.at_ (j := j') (by omega)
  exact ⟨_, _, cell_then hb c0, cell_then hb c1, h.gap hj, h1, h2⟩
/-- The row of runs that a law asks. -/
theorem runs_row (h : Ps W0 W P n c F H) : Calls Try.prog 10 #[.pointer (some ⟨P, 0, none⟩)] W fun e w' => ∃ (b cap l : Nat) (S : Nat → Int), e = .returned (.slice (some ⟨b, 0, none⟩) l cap) ∧ l ≤ cap ∧ l ≤ 1000 ∧ S 0 = 0 ∧ Hid (RunFacts w' n F b l S) ∧ Hid (S l = cnt F) ∧ Hid (Ps W0 w' P n c F H) := by
  refine (runs_t h).mono fun e w' ⟨b, cap, d, he, q1, q2, q3, q4, q5, q6, q7⟩ => ⟨b, cap, d.size, fun j => sumP (d.toList.take j), he, q1, q2, rfl, Lib.hid (facts_of q4 h.nb q3), Lib.hid ?_, Lib.hid q7⟩
  show sumP (d.toList.take d.size) = _
  rw [List.take_of_length_le (by rw [Array.length_toList]; exact Nat.le_refl _)]
  exact q5
/-- The law between two rounds. -/
def Pl (W0 W : World) (P n c T : Nat) : Prop := ∃ F H, Ps W0 W P n c F H ∧ cnt F + T = n - 1
/-- .. and within one, behind Alloc of k. -/
def Pm (W0 W : World) (P n c T k : Nat) (full : Bool) : Prop := ∃ F H, Ps W0 W P n c F H ∧ cnt F + T = n - 1 ∧ (full = true → ∀ a K, IsRun n F a K → K < k)
theorem Ps.mono {c' : Nat} (h : Ps W0 W P n c F H) (hc : c ≤ c') : Ps W0 W P n c' F H := by
  obtain ⟨v, b0, z, L, m, h1, h2, h3, h4, h5⟩ := h
  exact ⟨v, b0, z, L, m, ⟨⟨h1.pc.q, h1.pc.fr, h1.pc.len, h1.pc.map.mono hc, h1.pc.ok, h1.pc.bz, h1.pc.bP, h1.pc.zP, h1.pc.bh, h1.pc.zh⟩, h1.lx, h1.en, by have := h1.lc; omega, h1.nb⟩, h2, h3, h4, h5⟩
theorem Pl.alloc (h : Pl W0 W P n c T) (hc : c ≤ 900) (hk : 1 ≤ k) : Calls Try.prog 7 #[.pointer (some ⟨P, 0, none⟩), .int .i64 k] W fun e w' =>
    (e = .returned (.tuple #[.int .i64 0, .int .i64 3]) ∧ Hid (Pm W0 w' P n (c + 8) T k true)) ∨
    ∃ a : Nat, e = .returned (.tuple #[.int .i64 a, .int .i64 0]) ∧ Hid (Pm W0 w' P n (c + 8) (T + k) k false) ∧ T + k ≤ n ∧
      Hid (∀ V, Below w'.heap.size w' V → Calls Try.prog 9 #[.pointer (some ⟨P, 0, none⟩), .int .i64 a, .int .i64 k] V fun e w2 => e = .returned (.int .i64 0) ∧ Hid (Pm W0 w2 P n (c + 8) T k false)) := by
  obtain ⟨F, H, hp, hT⟩ := h
  have hl := hp.len
  refine (alloc_any hp (by omega) k).mono fun e w' hh => ?_
  rcases hh with ⟨h1, _⟩ | ⟨_, h1, he, H', _, hs⟩ | ⟨a, K, q, e1, _, hb, he, H', _, hs⟩
  · omega
  · exact .inl ⟨he, Lib.hid ⟨F, H', hs.mono (by omega), hT, fun _ a K g => by have := h1 a K g; omega⟩⟩
  · obtain rfl : k = q := by omega
    have hkK := hb.2.1
    have hle := hb.1.le
    have ha1 := hb.1.a1
    have hct := cnt_take (F := F) (a := a) k (by omega) (fun i i1 i2 => hb.1.in_ i i1 (by omega))
    refine .inr ⟨a, he, Lib.hid ⟨_, H', hs.mono (by omega), by omega, fun e => by cases e⟩, by omega, Lib.hid fun V hV => ?_⟩
    have hoff : ∀ i, a ≤ i → i < a + k → (setR F a false k).getD i false = false := fun i i1 i2 => by rw [setR_get F a false i k (by omega), if_pos ⟨i1, i2⟩]
    refine (free_yes (hs.below hV) (by omega) (by omega) hk (by omega) hoff).mono fun e w2 ⟨he, H2, _, hs2⟩ => ⟨he, Lib.hid ⟨_, H2, hs2.mono (by omega), ?_, fun e => by cases e⟩⟩
    rw [cnt_back k (by rw [setR_len]; omega) hoff]
    omega
theorem cnt_new (hn : 1 ≤ n) : cnt (newF n) = n - 1 := by
  unfold newF
  rw [cnt_back (n - 1) (by rw [List.length_replicate]; omega) (fun i _ _ => by rw [List.getD_eq_getElem?_getD, List.getElem?_replicate]; split <;> rfl), cnt_off]
  · omega
  · intro i
    rw [List.getD_eq_getElem?_getD, List.getElem?_replicate]; split <;> rfl
end Pg
end Go.Proofs.Ytbheabjemaaeoab
