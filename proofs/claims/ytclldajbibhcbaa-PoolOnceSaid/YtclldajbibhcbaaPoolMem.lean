/- What a pool is behind each of the steps of its calls: two buffers turn, one goes into common and another one takes its place, one is taken out of common. -/
import Derived.Test.YtclldajbibhcbaaPoolMath
namespace Go.Proofs.Ytclldajbibhcbaa
open Go.RowKit Go.Lib Fx Ho Qu Bu Gr
set_option linter.unusedVariables false
namespace Po
variable {w w' W W0 : World} {p B ps nf ne nf' ne' : Nat} {ad : Nat → Nat → Nat} {c c' : Nat → Nat → List Int} {G M H H' K M' : Home} {a : Nat → Value} {fv ev v : Value} {xf xe xs : List Value} {s : St} {n i : Nat}
theorem below_heap (hh : W.heap = w.heap) (ho : W.os = w.os) (ht : W.tape = w.tape) (hu : W.output = w.output) : Below w.heap.size w W := ⟨ho, ht, hu, by rw [hh]; exact Nat.le_refl _, fun k _ => by rw [hh]⟩
theorem up3 {α : Type} (f : Nat → α) {j k : Nat} (x : α) (h : j ≠ k) : up f k x j = f j := up_ne _ _ h
theorem At.ok1 (h : At K w p B ps a fv ev ad s M G) (hi : i < ps) : Slot ps s.F.length s.e 0 i ∧ Slot ps s.F.length s.e 1 i := ⟨Or.inl ⟨by omega, hi⟩, Or.inl ⟨by omega, hi⟩⟩
/-- The two of a P change places. -/
theorem At.turn (h : At K w p B ps a fv ev ad s M G) (hi : i < ps) (hh : W.heap = ((w.setCell ⟨B, i * 3, none⟩ (ptr (ad 1 i))).setCell ⟨B, i * 3 + 1, none⟩ (ptr (ad 0 i))).heap) (ho : W.os = w.os) (ht : W.tape = w.tape) (hu : W.output = w.output) : Is K W p B ps (sTurn s i) ∧ Wrote K w K W := by
  obtain ⟨k1, m1⟩ := h.m.seta (j := i * 3) (by omega) (ptr (ad 1 i))
  obtain ⟨k2, m2⟩ := m1.seta (j := i * 3 + 1) (by omega) (ptr (ad 0 i))
  have hb : Below ((w.setCell ⟨B, i * 3, none⟩ (ptr (ad 1 i))).setCell ⟨B, i * 3 + 1, none⟩ (ptr (ad 0 i))).heap.size ((w.setCell ⟨B, i * 3, none⟩ (ptr (ad 1 i))).setCell ⟨B, i * 3 + 1, none⟩ (ptr (ad 0 i))) W := below_heap hh ho ht hu
  have hoff : Off G M := fun k h1 h2 => h.off k h2 h1
  have b2 := (h.b.wrote k1 hoff).wrote k2 hoff
  have m3 := m2.below hb
  have b3 := b2.wrote (H := fun _ => False) (Wrote.of_below hb) (fun _ _ h => h)
  have hw : Wrote M w M W := (k1.trans k2).trans (Wrote.of_below hb)
  refine ⟨⟨up (up a (i * 3) (ptr (ad 1 i))) (i * 3 + 1) (ptr (ad 0 i)), fv, ev, fun k j => ad (if j = i ∧ k = 0 then 1 else if j = i ∧ k = 1 then 0 else k) j, M, G, ?_⟩, wrote_big hw h.km⟩
  refine ⟨?_, b3.move (fun k j => if j = i ∧ k = 0 then 1 else if j = i ∧ k = 1 then 0 else k) (fun _ j => j) ?_ ?_ (fun k j hs => rfl) ?_, ?_, ?_, ?_, h.off, h.km, h.kg, fun k hk => h.kn k (Nat.le_trans hw.size hk)⟩
  · have e2 : ptrs (fun j => ad (if j = i ∧ 2 = 0 then 1 else if j = i ∧ 2 = 1 then 0 else 2) j) s.F.length = ptrs (ad 2) s.F.length := ptrs_congr (fun j _ => by simp)
    have e3 : ptrs (fun j => ad (if j = i ∧ 3 = 0 then 1 else if j = i ∧ 3 = 1 then 0 else 3) j) s.e = ptrs (ad 3) s.e := ptrs_congr (fun j _ => by simp)
    show Mem W p B ps _ fv ev s.F.length s.e (ptrs (fun j => ad (if j = i ∧ 2 = 0 then 1 else if j = i ∧ 2 = 1 then 0 else 2) j) s.F.length) (ptrs (fun j => ad (if j = i ∧ 3 = 0 then 1 else if j = i ∧ 3 = 1 then 0 else 3) j) s.e) M
    rw [e2, e3]; exact m3
  · intro k j hs
    replace hs : Slot ps s.F.length s.e k j := hs
    unfold Slot at *
    try dsimp only at *
    split
    · omega
    · split <;> omega
  · intro k j k' j' h1 h2 e1 e2
    replace h1 : Slot ps s.F.length s.e k j := h1
    replace h2 : Slot ps s.F.length s.e k' j' := h2
    unfold Slot at *
    try dsimp only at *
    split at e1 <;> split at e1 <;> (try split at e1) <;> (try split at e1) <;> omega
  · intro k j hs
    unfold cont sTurn
    try dsimp only
    by_cases e : j = i
    · subst e
      by_cases e0 : k = 0
      · subst e0; simp [up_same]
      · by_cases e1 : k = 1
        · subst e1; simp [up_same]
        · simp [e0, e1]
    · simp only [up_ne _ _ e, e, false_and, if_false]
  · intro j hj
    by_cases e : j = i
    · subst e
      rw [up_ne _ _ (by omega), up_same]; simp
    · rw [up_ne _ _ (by omega), up_ne _ _ (by omega), h.one j hj]; simp [e]
  · intro j hj
    by_cases e : j = i
    · subst e
      rw [up_same]; simp
    · rw [up_ne _ _ (by omega), up_ne _ _ (by omega), h.two j hj]; simp [e]
  · intro j hj
    rw [up_ne _ _ (by omega), up_ne _ _ (by omega)]; exact h.flg j hj
/-- A P's first buffer holds other numbers. -/
theorem At.set (h : At K w p B ps a fv ev ad s M G) (hi : i < ps) {L : List Int} (ht : Wrote (at_ (ad 0 i)) w (at_ (ad 0 i)) w') (hb : IsBuf w' (ad 0 i) L) : Is K w' p B ps (sSet s i L) ∧ Wrote K w K w' := by
  have hg := h.b.hb 0 i (h.ok1 hi).1
  have hm : Mem w' p B ps a fv ev s.F.length s.e (ptrs (ad 2) s.F.length) (ptrs (ad 3) s.e) M := h.m.wrote ht (fun k h1 h2 => h.off k h1 (by rw [show k = ad 0 i from h2]; exact hg))
  refine ⟨⟨a, fv, ev, ad, M, G, hm, h.b.one (h.ok1 hi).1 ht hb ?_, h.one, h.two, h.flg, h.off, h.km, h.kg, fun k hk => h.kn k (Nat.le_trans ht.size hk)⟩, wrote_big ht (fun k hk => by rw [show k = ad 0 i from hk]; exact h.kg _ hg)⟩
  intro k j hs
  unfold cont sSet
  try dsimp only
  by_cases e : k = 0 ∧ j = i
  · obtain ⟨rfl, rfl⟩ := e
    simp [up_same]
  · rw [if_neg e]
    by_cases e0 : k = 0
    · subst e0
      rw [if_pos rfl, if_pos rfl, up_ne _ _ (fun e2 => e ⟨rfl, e2⟩)]
    · rw [if_neg e0, if_neg e0]
/-- The last one of the empty ones goes out. -/
theorem Mem.pope {m b off cap : Nat} (h : Mem w p B ps a fv ev nf (m + 1) xf xe M) (he : ev = .slice (some ⟨b, off, none⟩) (m + 1) cap) (u : Value) :
    Wrote M w (fun k => M k ∨ (Value.slice (some ⟨b, off, none⟩) m cap).ownBlock = some k) ((w.setCell ⟨b, off + m, none⟩ u).setCell ⟨p, 2, none⟩ (.slice (some ⟨b, off, none⟩) m cap)) ∧ Mem ((w.setCell ⟨b, off + m, none⟩ u).setCell ⟨p, 2, none⟩ (.slice (some ⟨b, off, none⟩) m cap)) p B ps a fv (.slice (some ⟨b, off, none⟩) m cap) nf m xf (xe.take (m * 1)) (fun k => M k ∨ (Value.slice (some ⟨b, off, none⟩) m cap).ownBlock = some k) := by
  subst he
  have hg := (h.empt.set (j := m) (u := u) (by omega)).take (k := m) (by omega)
  have e : (xe.set m u).take (m * 1) = xe.take (m * 1) := by rw [Nat.mul_one, List.take_set_of_le (Nat.le_refl _)]
  rw [e] at hg
  exact h.sete (wrote_setCell (a := ⟨b, off + m, none⟩) (u := u) rfl rfl rfl rfl rfl) hg
/-- The last one of the full ones goes out. -/
theorem Mem.popf {m b off cap : Nat} (h : Mem w p B ps a fv ev (m + 1) ne xf xe M) (he : fv = .slice (some ⟨b, off, none⟩) (m + 1) cap) (u : Value) :
    Wrote M w (fun k => M k ∨ (Value.slice (some ⟨b, off, none⟩) m cap).ownBlock = some k) ((w.setCell ⟨b, off + m, none⟩ u).setCell ⟨p, 1, none⟩ (.slice (some ⟨b, off, none⟩) m cap)) ∧ Mem ((w.setCell ⟨b, off + m, none⟩ u).setCell ⟨p, 1, none⟩ (.slice (some ⟨b, off, none⟩) m cap)) p B ps a (.slice (some ⟨b, off, none⟩) m cap) ev m ne (xf.take (m * 1)) xe (fun k => M k ∨ (Value.slice (some ⟨b, off, none⟩) m cap).ownBlock = some k) := by
  subst he
  have hg := (h.full.set (j := m) (u := u) (by omega)).take (k := m) (by omega)
  have e : (xf.set m u).take (m * 1) = xf.take (m * 1) := by rw [Nat.mul_one, List.take_set_of_le (Nat.le_refl _)]
  rw [e] at hg
  exact h.setf (wrote_setCell (a := ⟨b, off + m, none⟩) (u := u) rfl rfl rfl rfl rfl) hg
def sCh (j : Nat) (s : St) (i : Nat) : St := if j = 0 then sCh0 s i else sCh1 s i
/-- The j-th of a P's two has gone into common, and x has taken its place. -/
theorem At.changed {j x : Nat} (h : At K w p B ps a fv ev ad s M G) (hi : i < ps) (hj : j < 2) {ad2 : Nat → Nat → Nat} {G2 : Home} {v' ev' : Value} {c2 : Nat → Nat → List Int}
    (hw : Wrote M w M' W) (hm : Mem W p B ps (up (up a (i * 3 + 2) (.bool true)) (i * 3 + j) (ptr x)) v' ev' (s.F.length + 1) ne' (ptrs (ad 2) s.F.length ++ [ptr (ad j i)]) (ptrs (ad 3) ne') M')
    (hb : Bufs W ps s.F.length (ne' + 1) ad2 c2 G2) (hx : ad2 3 ne' = x) (hold : ∀ k l, Slot ps s.F.length ne' k l → ad2 k l = ad k l ∧ c2 k l = cont s.o s.t s.F k l) (hc3 : c2 3 ne' = []) (hoff : Off M' G2) (hG : ∀ k, G2 k → G k ∨ w.heap.size ≤ k) (hne : ne' = s.e - 1) : Is K W p B ps (sCh j s i) ∧ Wrote K w K W := by
  have hKM : ∀ k, M' k → K k := fun k hk => (hw.home k hk).elim (h.km k) (h.kn k)
  refine ⟨?_, ⟨hw.os, hw.tape, hw.output, hw.size, fun k hk hn => hw.block k hk (fun e => hn (h.km k e)), fun k hk => Or.inl hk⟩⟩
  have hji : Slot ps s.F.length ne' j i := Or.inl ⟨hj, hi⟩
  have ha2 : ∀ k l, Slot ps (s.F.length + 1) ne' k l → ¬ (k = 2 ∧ l = s.F.length) → Slot ps s.F.length ne' k l := fun k l h1 h2 => by unfold Slot at *; omega
  refine ⟨up (up a (i * 3 + 2) (.bool true)) (i * 3 + j) (ptr x), v', ev', fun k l => if k = j ∧ l = i then x else if k = 2 ∧ l = s.F.length then ad j i else ad k l, M', G2, ?_⟩
  have hF : (sCh j s i).F.length = s.F.length + 1 := by unfold sCh; split <;> simp [sCh0, sCh1]
  have hE : (sCh j s i).e = ne' := by unfold sCh; split <;> simp [sCh0, sCh1, hne]
  have hco : ∀ k l, Slot ps (s.F.length + 1) ne' k l → cont (sCh j s i).o (sCh j s i).t (sCh j s i).F k l = c2 (if k = j ∧ l = i then 3 else if k = 2 ∧ l = s.F.length then j else k) (if k = j ∧ l = i then ne' else if k = 2 ∧ l = s.F.length then i else l) := by
    intro k l hs
    by_cases e1 : k = j ∧ l = i
    · rw [if_pos e1, if_pos e1, hc3]
      obtain ⟨rfl, rfl⟩ := e1
      rcases (show k = 0 ∨ k = 1 by omega) with rfl | rfl
      · simp [cont, sCh, sCh0, up_same]
      · simp [cont, sCh, sCh1, up_same]
    · rw [if_neg e1, if_neg e1]
      by_cases e2 : k = 2 ∧ l = s.F.length
      · rw [if_pos e2, if_pos e2, (hold j i hji).2]
        obtain ⟨rfl, rfl⟩ := e2
        rcases (show j = 0 ∨ j = 1 by omega) with rfl | rfl
        · simp [cont, sCh, sCh0]
        · simp [cont, sCh, sCh1]
      · rw [if_neg e2, if_neg e2, (hold k l (ha2 k l hs e2)).2]
        rcases (show j = 0 ∨ j = 1 by omega) with rfl | rfl
        · rcases Nat.lt_or_ge k 4 with hk4 | hk4
          · rcases (show k = 0 ∨ k = 1 ∨ k = 2 ∨ k = 3 by omega) with rfl | rfl | rfl | rfl
            · simp [cont, sCh, sCh0, up_ne _ _ (fun e => e1 ⟨rfl, e⟩)]
            · simp [cont, sCh, sCh0]
            · have hl : l < s.F.length := by unfold Slot at hs; omega
              simp [cont, sCh, sCh0, List.getElem?_append_left hl]
            · simp [cont]
          · unfold Slot at hs; omega
        · rcases Nat.lt_or_ge k 4 with hk4 | hk4
          · rcases (show k = 0 ∨ k = 1 ∨ k = 2 ∨ k = 3 by omega) with rfl | rfl | rfl | rfl
            · simp [cont, sCh, sCh1]
            · simp [cont, sCh, sCh1, up_ne _ _ (fun e => e1 ⟨rfl, e⟩)]
            · have hl : l < s.F.length := by unfold Slot at hs; omega
              simp [cont, sCh, sCh1, List.getElem?_append_left hl]
            · simp [cont]
          · unfold Slot at hs; omega
  refine ⟨?_, ?_, ?_, ?_, ?_, hoff, hKM, fun k hk => (hG k hk).elim (h.kg k) (h.kn k), fun k hk => h.kn k (Nat.le_trans hw.size hk)⟩
  · rw [hF, hE]
    have e2 : ptrs (fun l => if 2 = j ∧ l = i then x else if 2 = 2 ∧ l = s.F.length then ad j i else ad 2 l) (s.F.length + 1) = ptrs (ad 2) s.F.length ++ [ptr (ad j i)] := by
      rw [ptrs_snoc]
      have h2 : ¬ (2 = j) := by omega
      congr 1
      · exact ptrs_congr (fun l hl => by rw [if_neg (fun e => h2 e.1), if_neg (by omega)])
      · rw [if_neg (fun e => h2 e.1), if_pos ⟨rfl, rfl⟩]
    have e3 : ptrs (fun l => if 3 = j ∧ l = i then x else if 3 = 2 ∧ l = s.F.length then ad j i else ad 3 l) ne' = ptrs (ad 3) ne' := ptrs_congr (fun l hl => by rw [if_neg (by omega), if_neg (by omega)])
    show Mem W p B ps _ v' ev' (s.F.length + 1) ne' (ptrs (fun l => if 2 = j ∧ l = i then x else if 2 = 2 ∧ l = s.F.length then ad j i else ad 2 l) (s.F.length + 1)) (ptrs (fun l => if 3 = j ∧ l = i then x else if 3 = 2 ∧ l = s.F.length then ad j i else ad 3 l) ne') M'
    rw [e2, e3]; exact hm
  · rw [hF, hE]
    refine hb.move (fun k l => if k = j ∧ l = i then 3 else if k = 2 ∧ l = s.F.length then j else k) (fun k l => if k = j ∧ l = i then ne' else if k = 2 ∧ l = s.F.length then i else l) ?_ ?_ ?_ hco
    · intro k l hs
      unfold Slot at *
      try dsimp only
      by_cases e1 : k = j ∧ l = i
      · rw [if_pos e1, if_pos e1]; omega
      · rw [if_neg e1, if_neg e1]
        by_cases e2 : k = 2 ∧ l = s.F.length
        · rw [if_pos e2, if_pos e2]; omega
        · rw [if_neg e2, if_neg e2]; omega
    · intro k l k' l' h1 h2 f1 f2
      unfold Slot at *
      try dsimp only at *
      by_cases e1 : k = j ∧ l = i <;> by_cases g1 : k' = j ∧ l' = i
      · omega
      · rw [if_pos e1, if_neg g1] at f1 f2
        by_cases g2 : k' = 2 ∧ l' = s.F.length
        · rw [if_pos g2] at f1 f2; omega
        · rw [if_neg g2] at f1 f2; omega
      · rw [if_neg e1, if_pos g1] at f1 f2
        by_cases e2 : k = 2 ∧ l = s.F.length
        · rw [if_pos e2] at f1 f2; omega
        · rw [if_neg e2] at f1 f2; omega
      · rw [if_neg e1, if_neg g1] at f1 f2
        by_cases e2 : k = 2 ∧ l = s.F.length <;> by_cases g2 : k' = 2 ∧ l' = s.F.length
        · omega
        · rw [if_pos e2, if_neg g2] at f1 f2; exact absurd ⟨f1.symm, f2.symm⟩ g1
        · rw [if_neg e2, if_pos g2] at f1 f2; exact absurd ⟨f1, f2⟩ e1
        · rw [if_neg e2, if_neg g2] at f1 f2; exact ⟨f1, f2⟩
    · intro k l hs
      by_cases e1 : k = j ∧ l = i
      · simp only [if_pos e1]; exact hx.symm
      · simp only [if_neg e1]
        by_cases e2 : k = 2 ∧ l = s.F.length
        · simp only [if_pos e2]; exact (hold j i hji).1.symm
        · simp only [if_neg e2]; exact (hold k l (ha2 k l hs e2)).1.symm
  · intro l hl
    by_cases e : 0 = j ∧ l = i
    · obtain ⟨e1, e2⟩ := e
      subst e2
      rw [if_pos ⟨e1, rfl⟩, ← e1]; exact up_same _ (l * 3) _
    · rw [if_neg e, if_neg (by omega), up_ne _ _ (by omega), up_ne _ _ (by omega)]; exact h.one l hl
  · intro l hl
    by_cases e : 1 = j ∧ l = i
    · obtain ⟨e1, e2⟩ := e
      subst e2
      rw [if_pos ⟨e1, rfl⟩, ← e1, up_same]
    · rw [if_neg e, if_neg (by omega), up_ne _ _ (by omega), up_ne _ _ (by omega)]; exact h.two l hl
  · intro l hl
    have hfl : (sCh j s i).fl = up s.fl i true := by unfold sCh; split <;> rfl
    rw [hfl, up_ne _ _ (by omega)]
    by_cases e : l = i
    · subst e; rw [up_same, up_same]
    · rw [up_ne _ _ (by omega), up_ne _ _ e]; exact h.flg l hl
end Po
end Go.Proofs.Ytclldajbibhcbaa
