/- Lists of a span's places, for the statements that go by them: what stays and what goes; rows that a call owns through another one's writing. -/
import Derived.Test.YtoamabmnbldgkaaDoorSpanTold
import Derived.Test.YtoamabmnbldgkaaDoorPlaysList
namespace Go.Proofs.YtoamabmnbldgkaaDoor
open Go.RowKit Go.Lib Fx Bm Cl
set_option linter.unusedVariables false

theorem owns_turned {w w' : World} {lo hi base : Nat} {e : TypeId} {size : Nat} {v : Value} {n : Nat} {xs : List Value} (h : w.ownsRow base e size v n xs) (ht : Turned lo hi w w') (hb : hi ≤ base) : w'.ownsRow base e size v n xs := by
  obtain ⟨h1, h2⟩ := h
  refine ⟨h1, ?_⟩
  rcases h2 with h2 | ⟨g, cap, cur, hv, hg, hh, r⟩
  · exact Or.inl h2
  · exact Or.inr ⟨g, cap, cur, hv, hg, by rw [ht.block g (block_lt hh) (.inr (by omega))]; exact hh, r⟩
theorem owns_below {w w' : World} {base : Nat} {e : TypeId} {size : Nat} {v : Value} {n : Nat} {xs : List Value} (h : w.ownsRow base e size v n xs) (hb : Below w.heap.size w w') : w'.ownsRow base e size v n xs :=
  owns_turned (lo := 0) (hi := 0) h (Turned.of_below hb) (Nat.zero_le _)
theorem ints_cell {w : World} {lo l c : Nat} {a : Option Addr} {zs : List Int} (h : IntsAt w lo (.slice a l c) zs) {i : Nat} (hi : i < zs.length) : ∃ b off, a = some ⟨b, off, none⟩ ∧ w.cell? ⟨b, off + i, none⟩ = some (.int .i64 (zs.getD i 0)) := by
  obtain ⟨sp, cap, e, _, hc⟩ := h
  injection e with e1 e2 e3
  obtain ⟨b, off, h1, _, _, h4⟩ := hc i hi
  exact ⟨b, off, e1.trans h1, h4⟩
theorem ints_lo {w : World} {lo l c b off : Nat} {a : Option Addr} {zs : List Int} (h : IntsAt w lo (.slice a l c) zs) (ha : a = some ⟨b, off, none⟩) {i : Nat} (hi : i < zs.length) : lo ≤ b := by
  obtain ⟨sp, cap, e, _, hc⟩ := h
  injection e with e1 e2 e3
  obtain ⟨b', off', h1, h2, _, _⟩ := hc i hi
  rw [← e1, ha] at h1
  cases h1
  exact h2
theorem mem_congr {M N : Nat → Bool} : ∀ {n : Nat}, (∀ i, i < n → M i = N i) → mem M n = mem N n
  | 0, _ => rfl
  | n + 1, h => by rw [mem_succ, mem_succ, mem_congr fun i hi => h i (by omega), h n (by omega)]
theorem mem_cut {M N : Nat → Bool} {k n : Nat} (hk : k ≤ n) (h1 : ∀ i, i < k → M i = N i) (h2 : ∀ i, k ≤ i → i < n → M i = false) : mem M n = mem N k := by
  rw [mem_skip hk fun r h3 h4 => by rw [h2 r h3 h4]; simp]
  exact mem_congr h1
theorem cnt_cut {M N : Nat → Bool} {k n : Nat} (hk : k ≤ n) (h1 : ∀ i, i < k → M i = N i) (h2 : ∀ i, k ≤ i → i < n → M i = false) : cnt M n = cnt N k := by
  rw [← mem_len, ← mem_len, mem_cut hk h1 h2]
theorem cnt_not (K : Nat → Bool) : ∀ k, cnt K k + cnt (fun r => !K r) k = k
  | 0 => rfl
  | k + 1 => by
    have e1 : cnt K (k + 1) = cnt K k + (if K k then 1 else 0) := rfl
    have e2 : cnt (fun r => !K r) (k + 1) = cnt (fun r => !K r) k + (if !K k then 1 else 0) := rfl
    have := cnt_not K k
    rw [e1, e2]
    cases K k <;> simp <;> omega
/-- The j-th of those that are in a set, where j are in it below q, and q is. -/
theorem mem_get {G : Nat → Bool} {q k : Nat} (hq : q < k) (hG : G q = true) : (mem G k).getD (mem G q).length 0 = q ∧ (mem G q).length < (mem G k).length := by
  have hp := mem_parts G hq
  rw [if_pos hG] at hp
  rw [hp]
  refine ⟨?_, by simp⟩
  rw [List.getD_eq_getElem?_getD, List.getElem?_append_right (Nat.le_refl _), Nat.sub_self]
  rfl
theorem mem_mono (G : Nat → Bool) {q k : Nat} (h : q ≤ k) : (mem G q).length ≤ (mem G k).length := by
  obtain ⟨d, rfl⟩ : ∃ d, k = q + d := ⟨k - q, by omega⟩
  rw [mem_len, mem_len, cnt_add]; omega
/-- Where more are in a set below k than below t, the next one from t on. -/
theorem mem_more {G : Nat → Bool} {t k : Nat} (h : (mem G t).length < (mem G k).length) : ∃ q, t ≤ q ∧ q < k ∧ G q = true ∧ (∀ r, t ≤ r → r < q → G r = false) ∧ (mem G q).length = (mem G t).length := by
  rcases next_ways G k t true with ⟨_, hno⟩ | ⟨q, _, h1, h2, h3, h4⟩
  · rcases Nat.le_total t k with htk | htk
    · rw [mem_skip htk hno] at h; omega
    · have := mem_mono G htk; omega
  · exact ⟨q, h1, h2, h3, fun r h5 h6 => by have := h4 r h5 h6; simpa using this, by rw [mem_skip h1 h4]⟩
theorem mem_same {G : Nat → Bool} {t k : Nat} (htk : t ≤ k) (h : (mem G t).length = (mem G k).length) : ∀ r, t ≤ r → r < k → G r = false := fun r h1 h2 => by
  cases hG : G r with
  | false => rfl
  | true =>
    have := (mem_get h2 hG).2
    have := mem_mono G h1
    omega
end Go.Proofs.YtoamabmnbldgkaaDoor
