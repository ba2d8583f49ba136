/- Grey objects of all as they lie in memory: a row of structs of two buffers and a flag each, buffers in common in two rows of pointers. -/
import Derived.Test.YtclldajbibhcbaaBufMore
import Derived.Test.YtclldajbibhcbaaGRow
namespace Go.Proofs.Ytclldajbibhcbaa
open Go.RowKit Go.Lib Fx Ho Qu Bu Gr
set_option linter.unusedVariables false
namespace Po
abbrev ptr (a : Nat) : Value := .pointer (some ⟨a, 0, none⟩)
def ptrs (f : Nat → Nat) (n : Nat) : List Value := (List.range n).map (fun i => ptr (f i))
theorem ptrs_len (f : Nat → Nat) (n : Nat) : (ptrs f n).length = n := by simp [ptrs]
theorem ptrs_get {f : Nat → Nat} {n i : Nat} (h : i < n) : (ptrs f n)[i]? = some (ptr (f i)) := by simp [ptrs, h]
theorem ptrs_snoc (f : Nat → Nat) (n : Nat) : ptrs f (n + 1) = ptrs f n ++ [ptr (f n)] := by simp [ptrs, List.range_succ]
theorem ptrs_take (f : Nat → Nat) (n : Nat) : (ptrs f (n + 1)).take (n * 1) = ptrs f n := by
  rw [ptrs_snoc, Nat.mul_one, List.take_left' (ptrs_len f n)]
theorem ptrs_congr {f g : Nat → Nat} {n : Nat} (h : ∀ i, i < n → f i = g i) : ptrs f n = ptrs g n :=
  List.map_congr_left (fun i hi => by rw [h i (List.mem_range.1 hi)])
def up {α : Type} (f : Nat → α) (i : Nat) (x : α) : Nat → α := fun j => if j = i then x else f j
theorem up_same {α : Type} (f : Nat → α) (i : Nat) (x : α) : up f i x i = x := if_pos rfl
theorem up_ne {α : Type} (f : Nat → α) {i j : Nat} (x : α) (h : j ≠ i) : up f i x j = f j := if_neg h
/-- What there is: each P's two buffers and flag, the full ones in common, how many empty ones. -/
structure St where
  o : Nat → List Int
  t : Nat → List Int
  fl : Nat → Bool
  F : List (List Int)
  e : Nat
def cont (o t : Nat → List Int) (F : List (List Int)) (k i : Nat) : List Int := if k = 0 then o i else if k = 1 then t i else if k = 2 then F.getD i [] else []
/-- A place of a buffer: one of a P's two, one of the full ones, one of the empty ones. -/
def Slot (ps nf ne k i : Nat) : Prop := (k < 2 ∧ i < ps) ∨ (k = 2 ∧ i < nf) ∨ (k = 3 ∧ i < ne)
/-- The buffers, each at an address of its own. -/
structure Bufs (w : World) (ps nf ne : Nat) (ad : Nat → Nat → Nat) (c : Nat → Nat → List Int) (G : Home) : Prop where
  buf : ∀ k i, Slot ps nf ne k i → IsBuf w (ad k i) (c k i)
  inj : ∀ k i k' i', Slot ps nf ne k i → Slot ps nf ne k' i' → ad k i = ad k' i' → k = k' ∧ i = i'
  hb : ∀ k i, Slot ps nf ne k i → G (ad k i)
  lt : ∀ b, G b → b < w.heap.size
variable {w w' W : World} {p B ps nf ne nf' ne' : Nat} {ad : Nat → Nat → Nat} {c c' : Nat → Nat → List Int} {G M H H' : Home} {a : Nat → Value} {fv ev : Value} {xf xe : List Value}
theorem Bufs.wrote (h : Bufs w ps nf ne ad c G) (ht : Wrote H w H' w') (ho : Off G H) : Bufs w' ps nf ne ad c G :=
  ⟨fun k i hs => (h.buf k i hs).wrote ht (fun hh => ho _ (h.hb k i hs) hh), h.inj, h.hb, fun b hb => Nat.lt_of_lt_of_le (h.lt b hb) ht.size⟩
/-- Places change. -/
theorem Bufs.move (h : Bufs w ps nf ne ad c G) (s1 s2 : Nat → Nat → Nat) {ad' : Nat → Nat → Nat} (hs : ∀ k i, Slot ps nf' ne' k i → Slot ps nf ne (s1 k i) (s2 k i))
    (hi : ∀ k i k' i', Slot ps nf' ne' k i → Slot ps nf' ne' k' i' → s1 k i = s1 k' i' → s2 k i = s2 k' i' → k = k' ∧ i = i')
    (ha : ∀ k i, Slot ps nf' ne' k i → ad' k i = ad (s1 k i) (s2 k i)) (hc : ∀ k i, Slot ps nf' ne' k i → c' k i = c (s1 k i) (s2 k i)) : Bufs w ps nf' ne' ad' c' G :=
  ⟨fun k i h1 => by rw [ha k i h1, hc k i h1]; exact h.buf _ _ (hs k i h1),
   fun k i k' i' h1 h2 e => by
    rw [ha k i h1, ha k' i' h2] at e
    obtain ⟨e1, e2⟩ := h.inj _ _ _ _ (hs k i h1) (hs k' i' h2) e
    exact hi k i k' i' h1 h2 e1 e2,
   fun k i h1 => by rw [ha k i h1]; exact h.hb _ _ (hs k i h1), h.lt⟩
/-- One of them holds other numbers. -/
theorem Bufs.one {k0 i0 : Nat} {L : List Int} (h : Bufs w ps nf ne ad c G) (hs : Slot ps nf ne k0 i0) (ht : Wrote (at_ (ad k0 i0)) w (at_ (ad k0 i0)) w') (hb : IsBuf w' (ad k0 i0) L)
    (hc : ∀ k i, Slot ps nf ne k i → c' k i = if k = k0 ∧ i = i0 then L else c k i) : Bufs w' ps nf ne ad c' G :=
  ⟨fun k i h1 => by
    rw [hc k i h1]
    by_cases e : k = k0 ∧ i = i0
    · rw [if_pos e, e.1, e.2]; exact hb
    · rw [if_neg e]; exact (h.buf k i h1).wrote ht (fun hh => e (h.inj _ _ _ _ h1 hs hh)),
   h.inj, h.hb, fun b hb => Nat.lt_of_lt_of_le (h.lt b hb) ht.size⟩
/-- Two of them do. -/
theorem Bufs.two {k0 i0 k1 i1 : Nat} {L L2 : List Int} (h : Bufs w ps nf ne ad c G) (hs : Slot ps nf ne k0 i0) (hs1 : Slot ps nf ne k1 i1) (ht : Wrote (both (ad k0 i0) (ad k1 i1)) w (both (ad k0 i0) (ad k1 i1)) w') (hb : IsBuf w' (ad k0 i0) L) (hb1 : IsBuf w' (ad k1 i1) L2)
    (hc : ∀ k i, Slot ps nf ne k i → c' k i = if k = k0 ∧ i = i0 then L else if k = k1 ∧ i = i1 then L2 else c k i) : Bufs w' ps nf ne ad c' G :=
  ⟨fun k i h1 => by
    rw [hc k i h1]
    by_cases e : k = k0 ∧ i = i0
    · rw [if_pos e, e.1, e.2]; exact hb
    · rw [if_neg e]
      by_cases e1 : k = k1 ∧ i = i1
      · rw [if_pos e1, e1.1, e1.2]; exact hb1
      · rw [if_neg e1]; exact (h.buf k i h1).wrote ht (fun hh => hh.elim (fun hh => e (h.inj _ _ _ _ h1 hs hh)) (fun hh => e1 (h.inj _ _ _ _ h1 hs1 hh))),
   h.inj, h.hb, fun b hb => Nat.lt_of_lt_of_le (h.lt b hb) ht.size⟩
/-- One more, in a block that there was not. -/
theorem Bufs.more (h : Bufs w ps nf ne ad c G) {x : Nat} (hb : Below w.heap.size w w') (hx : w.heap.size ≤ x) (hi : IsBuf w' x []) (hc : ∀ k i, Slot ps nf (ne + 1) k i → c' k i = if k = 3 ∧ i = ne then [] else c k i) :
    Bufs w' ps nf (ne + 1) (fun k i => if k = 3 ∧ i = ne then x else ad k i) c' (fun b => G b ∨ b = x) := by
  have hold : ∀ k i, Slot ps nf (ne + 1) k i → ¬ (k = 3 ∧ i = ne) → Slot ps nf ne k i := fun k i h1 h2 => by unfold Slot at *; omega
  refine ⟨fun k i h1 => ?_, fun k i k' i' h1 h2 e => ?_, fun k i h1 => ?_, fun b hb' => ?_⟩
  · rw [hc k i h1]
    try dsimp only
    by_cases e : k = 3 ∧ i = ne
    · rw [if_pos e, if_pos e]; exact hi
    · rw [if_neg e, if_neg e]; exact (h.buf k i (hold k i h1 e)).below hb
  · try dsimp only at e
    by_cases e1 : k = 3 ∧ i = ne <;> by_cases e2 : k' = 3 ∧ i' = ne
    · omega
    · rw [if_pos e1, if_neg e2] at e
      have := h.lt _ (h.hb k' i' (hold k' i' h2 e2)); omega
    · rw [if_neg e1, if_pos e2] at e
      have := h.lt _ (h.hb k i (hold k i h1 e1)); omega
    · rw [if_neg e1, if_neg e2] at e
      exact h.inj _ _ _ _ (hold k i h1 e1) (hold k' i' h2 e2) e
  · try dsimp only
    by_cases e : k = 3 ∧ i = ne
    · rw [if_pos e]; exact Or.inr rfl
    · rw [if_neg e]; exact Or.inl (h.hb k i (hold k i h1 e))
  · rcases hb' with hb' | rfl
    · exact Nat.lt_of_lt_of_le (h.lt b hb') hb.size
    · exact hi.lt
/-- The memory about them: the struct, the row of the Ps, the two rows in common. -/
structure Mem (w : World) (p B ps : Nat) (a : Nat → Value) (fv ev : Value) (nf ne : Nat) (xf xe : List Value) (M : Home) : Prop where
  head : w.heap[p]? = some (.cells #[.slice (some ⟨B, 0, none⟩) ps ps, fv, ev] 144 (0, 0))
  arr : ∃ A, w.heap[B]? = some (.cells A 146 (0, 0)) ∧ ∀ j, j < ps * 3 → A[j]? = some (a j)
  full : GRow 1 w fv nf xf
  empt : GRow 1 w ev ne xe
  hp : M p
  hB : M B
  hf : ∀ b, fv.ownBlock = some b → M b
  he : ∀ b, ev.ownBlock = some b → M b
  lt : ∀ b, M b → b < w.heap.size
  pB : p ≠ B
  fp : fv.ownBlock ≠ some p
  fB : fv.ownBlock ≠ some B
  ep : ev.ownBlock ≠ some p
  eB : ev.ownBlock ≠ some B
  fe : ∀ b, fv.ownBlock = some b → ev.ownBlock ≠ some b
namespace Mem
theorem c0 (h : Mem w p B ps a fv ev nf ne xf xe M) : w.cell? ⟨p, 0, none⟩ = some (.slice (some ⟨B, 0, none⟩) ps ps) := cell_of h.head rfl
theorem c1 (h : Mem w p B ps a fv ev nf ne xf xe M) : w.cell? ⟨p, 1, none⟩ = some fv := cell_of h.head rfl
theorem c2 (h : Mem w p B ps a fv ev nf ne xf xe M) : w.cell? ⟨p, 2, none⟩ = some ev := cell_of h.head rfl
theorem fz (h : Mem w p B ps a fv ev nf ne xf xe M) (j : Nat) : w.frozen? ⟨p, j, none⟩ = false := frozen_of_row w p j _ _ h.head
theorem ca (h : Mem w p B ps a fv ev nf ne xf xe M) {j : Nat} (hj : j < ps * 3) : w.cell? ⟨B, j, none⟩ = some (a j) := by obtain ⟨A, h1, h2⟩ := h.arr; exact cell_of h1 (h2 j hj)
theorem fa (h : Mem w p B ps a fv ev nf ne xf xe M) (j : Nat) : w.frozen? ⟨B, j, none⟩ = false := by obtain ⟨A, h1, h2⟩ := h.arr; exact frozen_of_row w B j _ _ h1
theorem wrote (h : Mem w p B ps a fv ev nf ne xf xe M) (ht : Wrote H w H' w') (ho : Off M H) : Mem w' p B ps a fv ev nf ne xf xe M :=
  ⟨by rw [ht.block p (h.lt p h.hp) (fun h' => ho p h.hp h')]; exact h.head, by obtain ⟨A, h1, h2⟩ := h.arr; exact ⟨A, by rw [ht.block B (h.lt B h.hB) (fun h' => ho B h.hB h')]; exact h1, h2⟩,
   h.full.wrote ht (fun k hk h' => ho k (h.hf k hk) h'), h.empt.wrote ht (fun k hk h' => ho k (h.he k hk) h'), h.hp, h.hB, h.hf, h.he, fun b hb => Nat.lt_of_lt_of_le (h.lt b hb) ht.size, h.pB, h.fp, h.fB, h.ep, h.eB, h.fe⟩
theorem below (h : Mem w p B ps a fv ev nf ne xf xe M) (hb : Below w.heap.size w w') : Mem w' p B ps a fv ev nf ne xf xe M := h.wrote (H := fun _ => False) (Wrote.of_below hb) (fun _ _ h => h)
/-- A cell of the Ps' row is another one. -/
theorem seta (h : Mem w p B ps a fv ev nf ne xf xe M) {j : Nat} (hj : j < ps * 3) (u : Value) : Wrote M w M (w.setCell ⟨B, j, none⟩ u) ∧ Mem (w.setCell ⟨B, j, none⟩ u) p B ps (up a j u) fv ev nf ne xf xe M := by
  have hw : Wrote (fun k => k = B) w (fun k => k = B) (w.setCell ⟨B, j, none⟩ u) := wrote_setCell (a := ⟨B, j, none⟩) (u := u) rfl rfl rfl rfl rfl
  have hw2 : Wrote M w M (w.setCell ⟨B, j, none⟩ u) := wrote_setCell (a := ⟨B, j, none⟩) (u := u) rfl rfl rfl rfl h.hB
  obtain ⟨A, h1, h2⟩ := h.arr
  refine ⟨hw2, ⟨by rw [hw.block p (h.lt p h.hp) h.pB]; exact h.head, ⟨_, heap_setCell_same _ B j _ _ _ h1, fun i hi => ?_⟩,
   h.full.wrote hw (fun k hk h' => h.fB (by rw [hk, h'])), h.empt.wrote hw (fun k hk h' => h.eB (by rw [hk, h'])), h.hp, h.hB, h.hf, h.he, fun b hb => Nat.lt_of_lt_of_le (h.lt b hb) hw.size, h.pB, h.fp, h.fB, h.ep, h.eB, h.fe⟩⟩
  by_cases e : i = j
  · subst e; rw [up_same]; exact get_same (h2 i hi)
  · rw [up_ne _ _ e]; exact get_set (h2 i hi) (fun e2 => e e2.symm)
/-- The full ones are another row. -/
theorem setf (h : Mem w p B ps a fv ev nf ne xf xe M) {w1 : World} {v' : Value} {nf' : Nat} {xf' : List Value} (hw : Wrote (fun k => fv.ownBlock = some k) w (fun k => v'.ownBlock = some k) w1) (hg : GRow 1 w1 v' nf' xf') :
    Wrote M w (fun b => M b ∨ v'.ownBlock = some b) (w1.setCell ⟨p, 1, none⟩ v') ∧ Mem (w1.setCell ⟨p, 1, none⟩ v') p B ps a v' ev nf' ne xf' xe (fun b => M b ∨ v'.ownBlock = some b) := by
  have hn : ∀ b, v'.ownBlock = some b → fv.ownBlock = some b ∨ w.heap.size ≤ b := hw.home
  have vp : v'.ownBlock ≠ some p := fun e => (hn p e).elim h.fp (fun h2 => by have := h.lt p h.hp; omega)
  have vB : v'.ownBlock ≠ some B := fun e => (hn B e).elim h.fB (fun h2 => by have := h.lt B h.hB; omega)
  have hd : w1.heap[p]? = w.heap[p]? := hw.block p (h.lt p h.hp) h.fp
  have hB : w1.heap[B]? = w.heap[B]? := hw.block B (h.lt B h.hB) h.fB
  have he1 : GRow 1 w1 ev ne xe := h.empt.wrote hw (fun k hk h' => h.fe k h' hk)
  have hw2 : Wrote (fun k => k = p) w1 (fun k => k = p) (w1.setCell ⟨p, 1, none⟩ v') := wrote_setCell (a := ⟨p, 1, none⟩) (u := v') rfl rfl rfl rfl rfl
  refine ⟨⟨hw2.os.trans hw.os, hw2.tape.trans hw.tape, hw2.output.trans hw.output, Nat.le_trans hw.size hw2.size, fun k hk hno => (hw2.block k (Nat.lt_of_lt_of_le hk hw.size) (fun e => hno (by rw [e]; exact h.hp))).trans (hw.block k hk (fun e => hno (h.hf k e))), fun k hk => hk.elim Or.inl (fun e => (hn k e).imp (h.hf k) id)⟩, ?_⟩
  refine ⟨?_, ?_, hg.wrote hw2 (fun k hk e => vp (by rw [hk, e])), he1.wrote hw2 (fun k hk e => h.ep (by rw [hk, e])), Or.inl h.hp, Or.inl h.hB, fun b e => Or.inr e, fun b e => Or.inl (h.he b e), ?_, h.pB, vp, vB, h.ep, h.eB, fun b e => (hn b e).elim (h.fe b) (fun h2 h3 => by have := h.lt b (h.he b h3); omega)⟩
  · rw [heap_setCell_same _ p 1 _ _ _ (hd.trans h.head)]; rfl
  · obtain ⟨A, h1, h2⟩ := h.arr
    exact ⟨A, by rw [hw2.block B (Nat.lt_of_lt_of_le (h.lt B h.hB) hw.size) (fun e => h.pB e.symm), hB]; exact h1, h2⟩
  · intro b hb
    rcases hb with hb | hb
    · exact Nat.lt_of_lt_of_le (h.lt b hb) (Nat.le_trans hw.size hw2.size)
    · exact Nat.lt_of_lt_of_le (hg.lt hb) hw2.size
/-- The empty ones are another row. -/
theorem sete (h : Mem w p B ps a fv ev nf ne xf xe M) {w1 : World} {v' : Value} {ne' : Nat} {xe' : List Value} (hw : Wrote (fun k => ev.ownBlock = some k) w (fun k => v'.ownBlock = some k) w1) (hg : GRow 1 w1 v' ne' xe') :
    Wrote M w (fun b => M b ∨ v'.ownBlock = some b) (w1.setCell ⟨p, 2, none⟩ v') ∧ Mem (w1.setCell ⟨p, 2, none⟩ v') p B ps a fv v' nf ne' xf xe' (fun b => M b ∨ v'.ownBlock = some b) := by
  have hn : ∀ b, v'.ownBlock = some b → ev.ownBlock = some b ∨ w.heap.size ≤ b := hw.home
  have vp : v'.ownBlock ≠ some p := fun e => (hn p e).elim h.ep (fun h2 => by have := h.lt p h.hp; omega)
  have vB : v'.ownBlock ≠ some B := fun e => (hn B e).elim h.eB (fun h2 => by have := h.lt B h.hB; omega)
  have hd : w1.heap[p]? = w.heap[p]? := hw.block p (h.lt p h.hp) h.ep
  have hB : w1.heap[B]? = w.heap[B]? := hw.block B (h.lt B h.hB) h.eB
  have he1 : GRow 1 w1 fv nf xf := h.full.wrote hw (fun k hk h' => h.fe k hk h')
  have hw2 : Wrote (fun k => k = p) w1 (fun k => k = p) (w1.setCell ⟨p, 2, none⟩ v') := wrote_setCell (a := ⟨p, 2, none⟩) (u := v') rfl rfl rfl rfl rfl
  refine ⟨⟨hw2.os.trans hw.os, hw2.tape.trans hw.tape, hw2.output.trans hw.output, Nat.le_trans hw.size hw2.size, fun k hk hno => (hw2.block k (Nat.lt_of_lt_of_le hk hw.size) (fun e => hno (by rw [e]; exact h.hp))).trans (hw.block k hk (fun e => hno (h.he k e))), fun k hk => hk.elim Or.inl (fun e => (hn k e).imp (h.he k) id)⟩, ?_⟩
  refine ⟨?_, ?_, he1.wrote hw2 (fun k hk e => h.fp (by rw [hk, e])), hg.wrote hw2 (fun k hk e => vp (by rw [hk, e])), Or.inl h.hp, Or.inl h.hB, fun b e => Or.inl (h.hf b e), fun b e => Or.inr e, ?_, h.pB, h.fp, h.fB, vp, vB, fun b e e2 => (hn b e2).elim (h.fe b e) (fun h2 => by have := h.lt b (h.hf b e); omega)⟩
  · rw [heap_setCell_same _ p 2 _ _ _ (hd.trans h.head)]; rfl
  · obtain ⟨A, h1, h2⟩ := h.arr
    exact ⟨A, by rw [hw2.block B (Nat.lt_of_lt_of_le (h.lt B h.hB) hw.size) (fun e => h.pB e.symm), hB]; exact h1, h2⟩
  · intro b hb
    rcases hb with hb | hb
    · exact Nat.lt_of_lt_of_le (h.lt b hb) (Nat.le_trans hw.size hw2.size)
    · exact Nat.lt_of_lt_of_le (hg.lt hb) hw2.size
end Mem
/-- All of it, in blocks of K; whatever is new is of K, too. -/
structure At (K : Home) (w : World) (p B ps : Nat) (a : Nat → Value) (fv ev : Value) (ad : Nat → Nat → Nat) (s : St) (M G : Home) : Prop where
  m : Mem w p B ps a fv ev s.F.length s.e (ptrs (ad 2) s.F.length) (ptrs (ad 3) s.e) M
  b : Bufs w ps s.F.length s.e ad (cont s.o s.t s.F) G
  one : ∀ i, i < ps → a (i * 3) = ptr (ad 0 i)
  two : ∀ i, i < ps → a (i * 3 + 1) = ptr (ad 1 i)
  flg : ∀ i, i < ps → a (i * 3 + 2) = .bool (s.fl i)
  off : Off M G
  km : ∀ k, M k → K k
  kg : ∀ k, G k → K k
  kn : ∀ k, w.heap.size ≤ k → K k
def Is (K : Home) (w : World) (p B ps : Nat) (s : St) : Prop := ∃ a fv ev ad M G, At K w p B ps a fv ev ad s M G
variable {K : Home} {s : St}
theorem wrote_big {H H' K : Home} {w w' : World} (h : Wrote H w H' w') (hk : ∀ k, H k → K k) : Wrote K w K w' := ⟨h.os, h.tape, h.output, h.size, fun k hk' hn => h.block k hk' (fun e => hn (hk k e)), fun _ h => Or.inl h⟩
theorem Is.below (h : Is K w p B ps s) (hb : Below w.heap.size w w') : Is K w' p B ps s := by
  obtain ⟨a, fv, ev, ad, M, G, h⟩ := h
  exact ⟨a, fv, ev, ad, M, G, h.m.below hb, h.b.wrote (H := fun _ => False) (Wrote.of_below hb) (fun _ _ h => h), h.one, h.two, h.flg, h.off, h.km, h.kg, fun k hk => h.kn k (Nat.le_trans hb.size hk)⟩
/-- What lies outside of K has turned, and nothing of K. -/
theorem Is.apart (h : Is K w p B ps s) {H H' : Home} (ht : Wrote H w H' w') (ho : Off K H) : Is K w' p B ps s := by
  obtain ⟨a, fv, ev, ad, M, G, h⟩ := h
  exact ⟨a, fv, ev, ad, M, G, h.m.wrote ht (fun k hk h' => ho k (h.km k hk) h'), h.b.wrote ht (fun k hk h' => ho k (h.kg k hk) h'), h.one, h.two, h.flg, h.off, h.km, h.kg, fun k hk => h.kn k (Nat.le_trans ht.size hk)⟩
theorem wrote_heap {H H' : Home} {w w1 W : World} (h : Wrote H w H' w1) (hh : W.heap = w1.heap) (ho : W.os = w1.os) (ht : W.tape = w1.tape) (hu : W.output = w1.output) : Wrote H w H' W :=
  ⟨ho.trans h.os, ht.trans h.tape, hu.trans h.output, by rw [hh]; exact h.size, fun k hk hn => by rw [hh]; exact h.block k hk hn, h.home⟩
end Po
end Go.Proofs.Ytclldajbibhcbaa
