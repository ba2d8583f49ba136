/- Rows of any elements: a slice that holds n elements of s cells each, somewhere in a block of its own, its room within it; what append, re-slicing and storing make of it. -/
import Derived.Test.YtneibhcigbfigaaHome
import Derived.Deep.Upon
namespace Go.Proofs.Ytneibhcigbfigaa
open Go.RowKit Go.Lib Fx Ho
set_option linter.unusedVariables false
namespace Gr
/-- The slice v holds n elements, whose cells are xs, s each. -/
def GRow (s : Nat) (w : World) (v : Value) (n : Nat) (xs : List Value) : Prop :=
  ∃ ao b off cap, v = .slice ao n cap ∧ Came w s ao b off n cap xs ∧ (cap ≤ maxLen ∧ ∀ j, j < cap * s → w.frozen? ⟨b, off + j, none⟩ = false) ∧ (ao = some ⟨b, off, none⟩ ∧ b < w.heap.size ∨ ao = none ∧ cap = 0)
/-- A slice type T of elements E: how many cells, how many bytes, what a zero is. -/
structure Elt (P : Program) (T E : TypeId) (s bytes : Nat) (z : Value) : Prop where
  ty : P.underlying T = some (.slice E)
  info : (P.info? E).map (fun i => (i.zero, i.size, i.bytes)) = some (some z, s, bytes)
  size : z.cells.size = s
  pos : 0 < s
  small : bytes ≤ 10000
variable {w w' : World} {p : Nat} {v : Value} {s n m : Nat} {xs ys : List Value} {H H' : Home} {P : Program} {T E : TypeId} {bytes : Nat} {z : Value}
theorem grow_nil (s : Nat) (w : World) : GRow s w (.slice none 0 0) 0 [] := ⟨none, 0, 0, 0, rfl, ⟨by decide, fun h => (by omega), fun h => (by omega), by simp, fun j u h => (by simp at h), fun j h => (by omega)⟩, ⟨by decide, fun j h => by omega⟩, .inr ⟨rfl, rfl⟩⟩
theorem GRow.len (h : GRow s w v n xs) : xs.length = n * s := by obtain ⟨ao, b, off, cap, rfl, hc, _⟩ := h; exact hc.oldsLen
theorem GRow.slice (h : GRow s w v n xs) : ∃ sp cap, v = .slice sp n cap := by
  obtain ⟨ao, b, off, cap, rfl, _⟩ := h
  exact ⟨_, _, rfl⟩
theorem GRow.wrote (h : GRow s w v n xs) (ht : Wrote H w H' w') (ho : ∀ k, v.ownBlock = some k → ¬ H k) : GRow s w' v n xs := by
  obtain ⟨ao, b, off, cap, rfl, hc, hm, hxx⟩ := h
  have hb : 0 < cap → w'.heap[b]? = w.heap[b]? := fun h0 => by
    have ha := hc.addr h0
    subst ha
    exact ht.block b (hc.lt h0) (ho b rfl)
  refine ⟨ao, b, off, cap, rfl, ⟨hc.le, hc.addr, fun h0 => Nat.lt_of_lt_of_le (hc.lt h0) ht.size, hc.oldsLen, fun j u hj => ?_, fun j hj => ?_⟩, ⟨hm.1, fun j hj => ?_⟩, hxx.imp (fun e => ⟨e.1, Nat.lt_of_lt_of_le e.2 ht.size⟩) id⟩
  · have hl := (List.getElem?_eq_some_iff.1 hj).1
    rw [hc.oldsLen] at hl
    have hle := hc.le
    have h0 : 0 < cap := by
      rcases Nat.eq_zero_or_pos cap with h0 | h0
      · have : n = 0 := by omega
        rw [this] at hl; simp at hl
      · exact h0
    rw [World.cell?_of_block (a := ⟨b, off + j, none⟩) (hb h0)]
    exact hc.olds j u hj
  · have h0 : 0 < cap := by
      rcases Nat.eq_zero_or_pos cap with h0 | h0
      · rw [h0] at hj; simp at hj
      · exact h0
    rw [World.cell?_of_block (a := ⟨b, off + n * s + j, none⟩) (hb h0), World.frozen?_of_block (a := ⟨b, off + n * s + j, none⟩) (hb h0)]
    exact hc.spare j hj
  · have h0 : 0 < cap := by
      rcases Nat.eq_zero_or_pos cap with h0 | h0
      · rw [h0] at hj; simp at hj
      · exact h0
    rw [World.frozen?_of_block (a := ⟨b, off + j, none⟩) (hb h0)]; exact hm.2 j hj
theorem GRow.below (h : GRow s w v n xs) (hb : Below w.heap.size w w') : GRow s w' v n xs := h.wrote (H := fun _ => False) (Wrote.of_below hb) (fun _ _ h => h)
theorem GRow.lt {k : Nat} (h : GRow s w v n xs) (hk : v.ownBlock = some k) : k < w.heap.size := by
  obtain ⟨ao, b, off, cap, rfl, hc, hm, hxx⟩ := h
  rcases hxx with ⟨rfl, hb⟩ | ⟨rfl, _⟩
  · obtain rfl : b = k := Option.some.inj hk
    exact hb
  · cases hk
/-- Where the elements lie: each cell, and that it may be written. -/
theorem GRow.cell (h : GRow s w v n xs) : ∃ ao b off cap, v = .slice ao n cap ∧ n ≤ cap ∧ cap ≤ maxLen ∧ (0 < cap → ao = some ⟨b, off, none⟩ ∧ b < w.heap.size ∧ v.ownBlock = some b) ∧ ∀ j u, xs[j]? = some u → w.cell? ⟨b, off + j, none⟩ = some u ∧ w.frozen? ⟨b, off + j, none⟩ = false := by
  obtain ⟨ao, b, off, cap, rfl, hc, hm, hxx⟩ := h
  refine ⟨ao, b, off, cap, rfl, hc.le, hm.1, fun h0 => ⟨hc.addr h0, hc.lt h0, by rw [hc.addr h0]; rfl⟩, fun j u hj => ⟨hc.olds j u hj, hm.2 j ?_⟩⟩
  have hl := (List.getElem?_eq_some_iff.1 hj).1
  rw [hc.oldsLen] at hl
  exact Nat.lt_of_lt_of_le hl (Nat.mul_le_mul_right _ hc.le)
theorem tape_setCells (b : Nat) : ∀ (vs : List Value) (o : Nat) (w : World), (w.setCells b o vs).tape = w.tape
  | [], _, _ => rfl
  | v :: r, o, w => by rw [World.setCells, tape_setCells b r]; simp
/-- Some elements more. -/
theorem append_g (el : Elt P T E s bytes z) (h : GRow s w v n xs) {tx ty : TypeId} (x : Value) (hs : Src P s tx x m ys w) (hn : n + m ≤ 1000000) :
    ∃ v' w', (Builtin.append_ #[T, tx] ty #[v, x]).run P w = .ok v' w' ∧ GRow s w' v' (n + m) (xs ++ ys) ∧ Wrote (fun k => v.ownBlock = some k) w (fun k => v'.ownBlock = some k) w' := by
  obtain ⟨i0, hi, hz0, hz1, hz2⟩ := info_parts el.info
  obtain ⟨ao, b, off, cap, rfl, hc, hm, hxx⟩ := h
  have hmx : (1000000 : Nat) ≤ maxLen := by unfold maxLen; omega
  have hby : (n + 0 + m) * bytes ≤ 140737488355328 := Nat.le_trans (Nat.mul_le_mul (by omega : n + 0 + m ≤ 1000000) el.small) (by omega)
  have hby2 : (n + m) * bytes ≤ 140737488355328 := by rw [Nat.add_zero] at hby; exact hby
  obtain ⟨v', w', hr, hu⟩ := run_append_upon (P := P) hc T tx ty i0 z bytes el.ty hi hz0 hz1 hz2 el.size (Upon.start (e := E) hc) x m ys hs (by omega) hby
  have htape : w'.tape = w.tape := by
    by_cases hfit : n + m ≤ cap
    · rcases Nat.eq_zero_or_pos cap with h0 | hcap
      · have h1 : m = 0 := by omega
        subst h1
        have h2 : ys = [] := List.eq_nil_of_length_eq_zero (by have := hs.newsLen; simpa using this)
        subst h2
        have := run_append_nothing (P := P) w T tx ty E i0 el.ty hi ao n cap hc.le x (by rw [hz1]; exact hs)
        rw [this] at hr
        cases hr; rfl
      · have ha := hc.addr hcap
        subst ha
        have hyl := hs.newsLen
        have hroom : ys.length ≤ (cap - n) * s := by rw [hyl]; exact Nat.mul_le_mul_right _ (by omega)
        have := run_append_room_src (P := P) w T tx ty E i0 el.ty hi b off n cap x m ys (by rw [hz1]; exact hs) hfit
          (fun j hj => by rw [hz1]; exact (hc.spare j (by omega)).1) (fun j hj => by rw [hz1]; exact (hc.spare j (by omega)).2)
        rw [this] at hr
        cases hr
        exact tape_setCells _ _ _ _
    · have := run_append_grow_src (P := P) w T tx ty E i0 z el.ty hi hz0 ao n cap xs (by
          rw [hz1]
          rcases Nat.eq_zero_or_pos cap with h0 | hcap
          · have h1 : n = 0 := by have := hc.le; omega
            subst h1
            have h2 : xs = [] := List.eq_nil_of_length_eq_zero (by have := hc.oldsLen; simpa using this)
            subst h2
            cases ao with
            | none => exact run_firstCells_none w.drew s 0 0 cap
            | some a' => exact run_firstCells_some w.drew s 0 a' 0 cap [] (by simp) (by intro _ _ h'; simp at h')
          · rw [hc.addr hcap]
            refine run_firstCells_some w.drew s n ⟨b, off, none⟩ n cap xs hc.oldsLen (fun j u hj => ?_)
            rw [addr_add]
            exact hc.olds j u hj) x m ys (by rw [hz1]; exact hs) (by omega) (by omega) (growslice_fits (by omega) (by rw [hz2]; exact hby2))
      rw [this] at hr
      cases hr; rfl
  have hsz := hu.kept.size
  have hcl : (xs ++ ([] ++ ys)) = xs ++ ys := by simp
  have hxl := hc.oldsLen
  have hyl := hs.newsLen
  have hcn : (xs ++ ys).length = (n + m) * s := by rw [List.length_append, hxl, hyl, Nat.add_mul]
  refine ⟨v', w', hr, ?_, ⟨hu.kept.1, htape, hu.kept.2.1, hsz, fun k hk hno => ?_, fun k hk => ?_⟩⟩
  · rcases hu.val with ⟨hle, rfl, hq⟩ | ⟨hgt, g, c', rfl, ho⟩
    · have hns : n * s + m * s ≤ cap * s := by rw [← Nat.add_mul]; exact Nat.mul_le_mul_right _ (by omega)
      have hq2 : (0 : Nat) + m = m := by omega
      refine ⟨ao, b, off, cap, by rw [hq2], ⟨by omega, hc.addr, fun h0 => Nat.lt_of_lt_of_le (hc.lt h0) hsz, by rw [hcn], fun j u hj => ?_, fun j hj => ?_⟩, ⟨hm.1, fun j hj => ?_⟩, hxx.imp (fun e => ⟨e.1, Nat.lt_of_lt_of_le e.2 hsz⟩) id⟩
      · have hl := (List.getElem?_eq_some_iff.1 hj).1
        rw [hcn] at hl
        have h0 : 0 < cap := by
          rcases Nat.eq_zero_or_pos cap with h0 | h0
          · have : n + m = 0 := by omega
            rw [this] at hl; simp at hl
          · exact h0
        rw [hu.inArray hc h0 hq j (by rw [hq2]; exact hl), hcl]
        exact hj
      · have h0 : 0 < cap := by
          rcases Nat.eq_zero_or_pos cap with h0 | h0
          · rw [h0] at hj; simp at hj
          · exact h0
        have hjs : (cap - (n + m)) * s = cap * s - (n + m) * s := Nat.sub_mul ..
        have hjs2 : (cap - n) * s = cap * s - n * s := Nat.sub_mul ..
        rw [Nat.add_mul] at hjs
        have e1 : off + (n + m) * s + j = off + n * s + (ys.length + j) := by rw [Nat.add_mul, hyl]; omega
        rw [e1, hu.old (hc.lt h0) (fun j' h1 ⟨_, h2⟩ => by rw [hq] at h1; simp only [List.nil_append] at h1; omega), hu.frozen ⟨b, _, none⟩ (hc.lt h0)]
        exact hc.spare _ (by omega)
      · have h0 : 0 < cap := by
          rcases Nat.eq_zero_or_pos cap with h0 | h0
          · rw [h0] at hj; simp at hj
          · exact h0
        exact (hu.frozen ⟨b, off + j, none⟩ (hc.lt h0)).trans (hm.2 j hj)
    · have hq2 : (0 : Nat) + m = m := by omega
      have hgl : g < w'.heap.size := by
        by_cases h0 : 0 < c' * s
        · exact World.block_lt_of_cell? _ _ (Option.isSome_iff_exists.1 (ho.there 0 h0).1).choose_spec
        · exact absurd (Nat.mul_pos (by have := ho.le; omega) el.pos) h0
      refine ⟨some ⟨g, 0, none⟩, g, 0, c', by rw [hq2], ⟨by have := ho.le; omega, fun _ => rfl, fun h0 => hgl, by rw [hcn], fun j u hj => ?_, fun j hj => ?_⟩, ⟨ho.max, fun j hj => by rw [Nat.zero_add]; exact (ho.there j (by omega)).2⟩, .inl ⟨rfl, hgl⟩⟩
      · have hl := (List.getElem?_eq_some_iff.1 hj).1
        rw [hcn] at hl
        rw [Nat.zero_add, ho.holds j (by rw [hq2]; exact hl), hcl]
        exact hj
      · have hjs : (c' - (n + m)) * s = c' * s - (n + m) * s := Nat.sub_mul ..
        have := ho.there ((n + m) * s + j) (by omega)
        rw [show 0 + (n + m) * s + j = (n + m) * s + j by omega]
        exact this
  · refine hu.kept.block hk (fun p hp e => ?_)
    obtain ⟨j, hj, rfl⟩ := hp
    obtain rfl : b = k := e
    exact hno (by rw [hc.addr (hu.capPos hj)]; rfl)
  · rcases hu.val with ⟨hle, rfl, hr⟩ | ⟨hgt, g, c', rfl, ho⟩
    · exact Or.inl (by cases ao <;> exact hk)
    · exact Or.inr (by obtain rfl : g = k := Option.some.inj hk; exact ho.new)
theorem own_some {sp : Option Addr} {n cap n' cap' k b : Nat} (h : (Value.slice (sp.map (·.add k)) n cap).ownBlock = some b) : (Value.slice sp n' cap').ownBlock = some b := by
  cases sp with
  | none => cases h
  | some a =>
    obtain ⟨ab, ao, asp⟩ := a
    have : (Addr.add ⟨ab, ao, asp⟩ k).block = ab := by unfold Addr.add; split <;> rfl
    show some ab = some b
    rw [← this]; exact h
theorem own_same {sp : Option Addr} {n cap n' cap' b : Nat} (h : (Value.slice sp n cap).ownBlock = some b) : (Value.slice sp n' cap').ownBlock = some b := by
  cases sp with
  | none => cases h
  | some a => exact h
/-- The first k are left out. -/
theorem GRow.drop {sp a1 : Option Addr} {cap k : Nat} (h : GRow s w (.slice sp n cap) n xs) (hk : k ≤ n) (ha : a1 = sp.map (·.add (k * s)) ∨ cap = k ∧ a1 = sp) : GRow s w (.slice a1 (n - k) (cap - k)) (n - k) (xs.drop (k * s)) ∧ (∀ b, (Value.slice a1 (n - k) (cap - k)).ownBlock = some b → (Value.slice sp n cap).ownBlock = some b) := by
  obtain ⟨ao, b, off, cap', e, hc, hm, hxx⟩ := h
  cases e
  have hle := hc.le
  have hmul : n * s ≤ cap * s := Nat.mul_le_mul_right _ hle
  have hks : k * s ≤ n * s := Nat.mul_le_mul_right _ hk
  have hsub : (n - k) * s = n * s - k * s := Nat.sub_mul ..
  have hsubc : (cap - k) * s = cap * s - k * s := Nat.sub_mul ..
  have hsub2 : (cap - k - (n - k)) * s = (cap - n) * s := by rw [show cap - k - (n - k) = cap - n by omega]
  have hol := hc.oldsLen
  have hlen : (xs.drop (k * s)).length = (n - k) * s := by rw [List.length_drop, hol, hsub]
  rcases ha with rfl | ⟨rfl, rfl⟩
  · refine ⟨⟨_, b, off + k * s, cap - k, rfl, ⟨by omega, fun h0 => ?_, fun h0 => hc.lt (by omega), hlen, fun j u hj => ?_, fun j hj => ?_⟩, ⟨by have := hm.1; omega, fun j hj => by rw [Nat.add_assoc]; exact hm.2 (k * s + j) (by omega)⟩, hxx.elim (fun e => .inl ⟨by rw [e.1]; simp [addr_add], e.2⟩) (fun e => .inr ⟨by rw [e.1]; rfl, by omega⟩)⟩, fun b2 h => own_some h⟩
    · rw [hc.addr (by omega)]; simp [addr_add]
    · rw [List.getElem?_drop] at hj
      rw [Nat.add_assoc]; exact hc.olds _ u hj
    · rw [hsub2] at hj
      rw [show off + k * s + (n - k) * s + j = off + n * s + j by omega]
      exact hc.spare j hj
  · have hn0 : n = cap := by omega
    subst hn0
    have hz : xs.drop (n * s) = [] := by rw [← hol]; exact List.drop_length
    rw [hz, Nat.sub_self]
    exact ⟨⟨_, b, off, 0, rfl, ⟨Nat.le_refl _, fun h0 => by omega, fun h0 => by omega, by simp, fun j u hj => by simp at hj, fun j hj => by omega⟩, ⟨by decide, fun j hj => by omega⟩, hxx.elim .inl (fun e => .inr ⟨e.1, rfl⟩)⟩, fun b2 h => own_same h⟩
/-- The last ones are left out: what stood there may be written anew. -/
theorem GRow.take {sp : Option Addr} {cap k : Nat} (h : GRow s w (.slice sp n cap) n xs) (hk : k ≤ n) : GRow s w (.slice sp k cap) k (xs.take (k * s)) := by
  obtain ⟨ao, b, off, cap', e, hc, hm, hxx⟩ := h
  cases e
  have hle := hc.le
  have hol := hc.oldsLen
  have hks : k * s ≤ n * s := Nat.mul_le_mul_right _ hk
  have hsub : (cap - k) * s = cap * s - k * s := Nat.sub_mul ..
  have hsub2 : (cap - n) * s = cap * s - n * s := Nat.sub_mul ..
  have hmul : n * s ≤ cap * s := Nat.mul_le_mul_right _ hle
  refine ⟨_, b, off, cap, rfl, ⟨by omega, hc.addr, hc.lt, by rw [List.length_take, hol]; omega, fun j u hj => ?_, fun j hj => ?_⟩, hm, hxx⟩
  · rw [List.getElem?_take] at hj
    split at hj
    · exact hc.olds j u hj
    · cases hj
  · refine ⟨?_, by rw [Nat.add_assoc]; exact hm.2 _ (by omega)⟩
    by_cases h1 : k * s + j < n * s
    · have := hc.olds (k * s + j) _ (List.getElem?_eq_getElem (by rw [hol]; exact h1))
      rw [Nat.add_assoc, this]; rfl
    · have := (hc.spare (j - (n * s - k * s)) (by omega)).1
      rw [show off + n * s + (j - (n * s - k * s)) = off + k * s + j by omega] at this
      exact this
/-- A cell of it is another one. -/
theorem GRow.set {b off cap j : Nat} {u : Value} (h : GRow s w (.slice (some ⟨b, off, none⟩) n cap) n xs) (hj : j < n * s) : GRow s (w.setCell ⟨b, off + j, none⟩ u) (.slice (some ⟨b, off, none⟩) n cap) n (xs.set j u) := by
  obtain ⟨ao, b', off', cap', e, hc, hm, hxx⟩ := h
  cases e
  have hle := hc.le
  have hol := hc.oldsLen
  have hmul : n * s ≤ cap * s := Nat.mul_le_mul_right _ hle
  have hcap : 0 < cap := by
    rcases Nat.eq_zero_or_pos cap with h0 | h0
    · rw [h0] at hmul; simp at hmul; omega
    · exact h0
  have he := hc.addr hcap
  cases he
  have hsz : (w.setCell ⟨b, off + j, none⟩ u).heap.size = w.heap.size := by simp [World.setCell]
  obtain ⟨u0, hu0⟩ : ∃ u0, xs[j]? = some u0 := ⟨_, List.getElem?_eq_getElem (by rw [hol]; exact hj)⟩
  have hcj := hc.olds j u0 hu0
  refine ⟨_, b, off, cap, rfl, ⟨hle, fun _ => rfl, fun h0 => by rw [hsz]; exact hc.lt h0, by rw [List.length_set]; exact hol, fun i x hi => ?_, fun i hi => ?_⟩, ⟨hm.1, fun i hi => by rw [World.frozen?_setCell]; exact hm.2 i hi⟩, .inl ⟨rfl, by rw [hsz]; exact hc.lt hcap⟩⟩
  · by_cases e : i = j
    · subst e
      rw [List.getElem?_set_self (by rw [hol]; exact hj)] at hi
      cases hi
      exact World.cell?_setCell_same _ _ _ hcj
    · rw [List.getElem?_set_ne (fun h => e h.symm)] at hi
      rw [World.cell?_setCell_other _ _ _ _ (show (⟨b, off + j, none⟩ : Addr) ≠ ⟨b, off + i, none⟩ from fun h => by have := congrArg Addr.off h; simp at this; omega)]
      exact hc.olds i x hi
  · have hsub : (cap - n) * s = cap * s - n * s := Nat.sub_mul ..
    rw [World.frozen?_setCell, World.cell?_setCell_other _ _ _ _ (show (⟨b, off + j, none⟩ : Addr) ≠ ⟨b, off + n * s + i, none⟩ from fun h => by have := congrArg Addr.off h; simp at this; omega)]
    exact hc.spare i hi
theorem wpList_append_g {ops : Array Oper} {rest : List Oper} {o : Oper} {a : Act} {Q : Exit → Act → World → Prop} (hgd : Region.wanted o (yielded ops a.tmps) = true) (sl x : Operand) {tx ty : TypeId}
    (ho : o.op = .call { callee := .builtin .append, args := #[sl, x], argTypes := #[T, tx] }) (hty : o.type = ty) {xv : Value} (el : Elt P T E s bytes z) (h : GRow s w v n xs) (hv : a.eval sl = v) (hx : a.eval x = xv)
    (hs : Src P s tx xv m ys w) (hn : n + m ≤ 1000000)
    (hK : ∀ v' w', GRow s w' v' (n + m) (xs ++ ys) → Wrote (fun k => v.ownBlock = some k) w (fun k => v'.ownBlock = some k) w' → wpList P ops Q rest (a.put o.dst v') w') : wpList P ops Q (o :: rest) a w := by
  refine wpList_step fun K hK' => ?_
  rw [if_pos hgd]
  obtain ⟨v', w', hr, h1, h2⟩ := append_g (ty := ty) el h xv hs hn
  unfold Oper.wp
  simp [execOp, ho, resolve, invoke, builtin, hv, hx, hty, hr, Result.andThen]
  exact hK' _ _ (hK v' w' h1 h2)
theorem step_append_g {ops : Array Oper} {o : Oper} {a : Act} {K : Act → World → Prop} {Q : Exit → Act → World → Prop} {F : Prop} (hgd : Region.wanted o (yielded ops a.tmps) = true) (sl x : Operand) {tx ty : TypeId}
    (ho : o.op = .call { callee := .builtin .append, args := #[sl, x], argTypes := #[T, tx] }) (hty : o.type = ty) {xv : Value} (el : Elt P T E s bytes z) (h : GRow s w v n xs) (hv : a.eval sl = v) (hx : a.eval x = xv)
    (hs : Src P s tx xv m ys w) (hn : n + m ≤ 1000000)
    (hK : ∀ v' w', GRow s w' v' (n + m) (xs ++ ys) → Wrote (fun k => v.ownBlock = some k) w (fun k => v'.ownBlock = some k) w' → K (a.put o.dst v') w') :
    if Region.wanted o (yielded ops a.tmps) = true then Oper.wp P o a w K Q else F := by
  rw [if_pos hgd]
  obtain ⟨v', w', hr, h1, h2⟩ := append_g (ty := ty) el h xv hs hn
  unfold Oper.wp
  simp [execOp, ho, resolve, invoke, builtin, hv, hx, hty, hr, Result.andThen]
  exact hK v' w' h1 h2
/-- One element, in the block that the call itself makes for it. -/
theorem src_new {N : Nat} {A : Array Value} {e : TypeId} {tx e' : TypeId} (hk : P.underlying tx = some (.slice e')) (hA : A.size = s) (h1 : ∀ u ∈ A.toList, u.oneCell' = true) (hb : w.heap[N]? = some (.cells A e (0, 0))) : Src P s tx (.slice (some ⟨N, 0, none⟩) 1 1) 1 A.toList w :=
  Src.ofSlice _ hk ⟨N, 0, none⟩ 1 1 A.toList (by simp [hA]) (fun j u hj => by
    rw [addr_add, Nat.zero_add]
    exact cell_of hb (by rw [← hj]; simp)) h1
end Gr
end Go.Proofs.Ytneibhcigbfigaa
