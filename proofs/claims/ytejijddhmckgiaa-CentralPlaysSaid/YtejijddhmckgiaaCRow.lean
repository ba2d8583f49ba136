/- Rows of ids that are linked by their spots, as they lie in memory: which ids stand in each row, in which block the spot of an id lies; what putting behind and taking out make of it. -/
import Derived.Test.YtejijddhmckgiaaIMap
import Derived.Test.YtejijddhmckgiaaRow
import Derived.Test.YtejijddhmckgiaaPutNew
import Derived.StillTailTactics
import Derived.LaidEqlPtr
import Derived.RegionTactic
import Derived.BigQuiet
namespace Go.Proofs.Ytejijddhmckgiaa
open Go.RowKit Go.Lib Fx Ho Rw
set_option linter.unusedVariables false
namespace Ce
abbrev Rows := Nat → List Int
def ptr (o : Option Nat) : Value := .pointer (o.map fun b => ⟨b, 0, none⟩)
def upd {α : Type} (f : Nat → α) (k : Nat) (x : α) : Nat → α := fun j => if j = k then x else f j
def updI {α : Type} (f : Int → α) (k : Int) (x : α) : Int → α := fun j => if j = k then x else f j
theorem upd_same {α : Type} (f : Nat → α) (k : Nat) (x : α) : upd f k x k = x := if_pos rfl
theorem upd_ne {α : Type} (f : Nat → α) {k j : Nat} (x : α) (h : j ≠ k) : upd f k x j = f j := if_neg h
theorem updI_same {α : Type} (f : Int → α) (k : Int) (x : α) : updI f k x k = x := if_pos rfl
theorem updI_ne {α : Type} (f : Int → α) {k j : Int} (x : α) (h : j ≠ k) : updI f k x j = f j := if_neg h
def spotA (x : Int) (R r : Nat) (a b : Option Nat) : Array Value := #[.int .i64 x, .pointer (some ⟨R, r * 3, none⟩), ptr a, ptr b]
/-- The three cells of row r. -/
def RowAt (A : Array Value) (Q : Rows) (sp : Int → Nat) (r : Nat) : Prop := A[r * 3]? = some (ptr ((Q r).head?.map sp)) ∧ A[r * 3 + 1]? = some (ptr ((Q r).getLast?.map sp)) ∧ A[r * 3 + 2]? = some (.int .i64 (Q r).length)
structure IsRows (w : World) (R : Nat) (Q : Rows) (sp : Int → Nat) : Prop where
  rows : ∃ A, w.heap[R]? = some (.cells A 109 (0, 0)) ∧ ∀ r, r < 64 → RowAt A Q sp r
  spot : ∀ r, r < 64 → ∀ P x S, Q r = P ++ x :: S → w.heap[sp x]? = some (.cells (spotA x R r (P.getLast?.map sp) (S.head?.map sp)) 114 (0, 0))
  nd : ∀ r, r < 64 → (Q r).Nodup
  one : ∀ r s x, r < 64 → s < 64 → x ∈ Q r → x ∈ Q s → r = s
  inj : ∀ r s x y, r < 64 → s < 64 → x ∈ Q r → y ∈ Q s → sp x = sp y → x = y
  off : ∀ r x, r < 64 → x ∈ Q r → sp x ≠ R
/-- The blocks of them. -/
def RH (R : Nat) (Q : Rows) (sp : Int → Nat) : Home := fun k => k = R ∨ ∃ r x, r < 64 ∧ x ∈ Q r ∧ sp x = k
variable {w w' W : World} {R r N : Nat} {Q : Rows} {sp : Int → Nat} {H H' : Home} {x y : Int} {P S : List Int}
namespace IsRows
theorem ltR (h : IsRows w R Q sp) : R < w.heap.size := by obtain ⟨A, h1, _⟩ := h.rows; exact block_lt h1
theorem at_ (h : IsRows w R Q sp) (hr : r < 64) (hx : x ∈ Q r) : ∃ P S, Q r = P ++ x :: S := List.append_of_mem hx
theorem lts (h : IsRows w R Q sp) (hr : r < 64) (hx : x ∈ Q r) : sp x < w.heap.size := by
  obtain ⟨P, S, e⟩ := h.at_ hr hx
  exact block_lt (h.spot r hr P x S e)
theorem lt (h : IsRows w R Q sp) {k : Nat} (hk : RH R Q sp k) : k < w.heap.size := by
  rcases hk with rfl | ⟨r, x, h1, h2, rfl⟩
  · exact h.ltR
  · exact h.lts h1 h2
theorem wrote (h : IsRows w R Q sp) (ht : Wrote H w H' w') (ho : Ho.Off (RH R Q sp) H) : IsRows w' R Q sp := by
  obtain ⟨A, h1, h2⟩ := h.rows
  refine ⟨⟨A, (ht.block R h.ltR (fun e => ho R (.inl rfl) e)).trans h1, h2⟩, fun r hr P x S e => ?_, h.nd, h.one, h.inj, h.off⟩
  have hm : x ∈ Q r := by rw [e]; simp
  exact (ht.block _ (h.lts hr hm) (fun e => ho _ (.inr ⟨r, x, hr, hm, rfl⟩) e)).trans (h.spot r hr P x S e)
theorem below (h : IsRows w R Q sp) (hb : Below w.heap.size w w') : IsRows w' R Q sp := h.wrote (H := fun _ => False) (Wrote.of_below hb) (fun _ _ h => h)
theorem of_heap (h : IsRows w R Q sp) (hh : w'.heap = w.heap) : IsRows w' R Q sp := by
  obtain ⟨A, h1, h2⟩ := h.rows
  exact ⟨⟨A, by rw [hh]; exact h1, h2⟩, fun r hr P x S e => by rw [hh]; exact h.spot r hr P x S e, h.nd, h.one, h.inj, h.off⟩
/-- The cells of a row. -/
theorem cells (h : IsRows w R Q sp) (hr : r < 64) : w.cell? ⟨R, r * 3, none⟩ = some (ptr ((Q r).head?.map sp)) ∧ w.cell? ⟨R, r * 3 + 1, none⟩ = some (ptr ((Q r).getLast?.map sp)) ∧ w.cell? ⟨R, r * 3 + 2, none⟩ = some (.int .i64 (Q r).length) := by
  obtain ⟨A, h1, h2⟩ := h.rows
  obtain ⟨a, b, c⟩ := h2 r hr
  exact ⟨cell_of h1 a, cell_of h1 b, cell_of h1 c⟩
theorem fzR (h : IsRows w R Q sp) (j : Nat) : w.frozen? ⟨R, j, none⟩ = false := by
  obtain ⟨A, h1, _⟩ := h.rows
  exact frozen_of_row w R j _ _ h1
theorem spotC (h : IsRows w R Q sp) (hr : r < 64) (e : Q r = P ++ x :: S) : w.cell? ⟨sp x, 0, none⟩ = some (.int .i64 x) ∧ w.cell? ⟨sp x, 1, none⟩ = some (.pointer (some ⟨R, r * 3, none⟩)) ∧ w.cell? ⟨sp x, 2, none⟩ = some (ptr (P.getLast?.map sp)) ∧ w.cell? ⟨sp x, 3, none⟩ = some (ptr (S.head?.map sp)) := by
  have h1 := h.spot r hr P x S e
  exact ⟨cell_of h1 rfl, cell_of h1 rfl, cell_of h1 rfl, cell_of h1 rfl⟩
theorem fzS (h : IsRows w R Q sp) (hr : r < 64) (e : Q r = P ++ x :: S) (j : Nat) : w.frozen? ⟨sp x, j, none⟩ = false := frozen_of_row w (sp x) j _ _ (h.spot r hr P x S e)
theorem len (h : IsRows w R Q sp) (hr : r < 64) (e : Q r = P ++ x :: S) : (Q r).length = P.length + S.length + 1 := by rw [e, List.length_append, List.length_cons]; omega
/-- An id is taken out. -/
theorem del (h : IsRows w R Q sp) (hr : r < 64) (e : Q r = P ++ x :: S)
    (hR : ∀ A, w.heap[R]? = some (.cells A 109 (0, 0)) → ∃ A', W.heap[R]? = some (.cells A' 109 (0, 0)) ∧ RowAt A' (upd Q r (P ++ S)) sp r ∧ ∀ j, (∀ i, i < 3 → j ≠ r * 3 + i) → A'[j]? = A[j]?)
    (hP : ∀ P0 y, P = P0 ++ [y] → W.heap[sp y]? = some (.cells (spotA y R r (P0.getLast?.map sp) (S.head?.map sp)) 114 (0, 0)))
    (hS : ∀ y S0, S = y :: S0 → W.heap[sp y]? = some (.cells (spotA y R r (P.getLast?.map sp) (S0.head?.map sp)) 114 (0, 0)))
    (ho : ∀ b, b < w.heap.size → b ≠ R → (∀ P0 y, P = P0 ++ [y] → b ≠ sp y) → (∀ y S0, S = y :: S0 → b ≠ sp y) → W.heap[b]? = w.heap[b]?) : IsRows W R (upd Q r (P ++ S)) sp := by
  have hnd := h.nd r hr
  have hsub : ∀ s z, z ∈ upd Q r (P ++ S) s → z ∈ Q s := fun s z hz => by
    by_cases hs : s = r
    · subst hs; rw [upd_same] at hz; rw [e]; rcases List.mem_append.1 hz with h | h <;> simp [h]
    · rwa [upd_ne _ _ hs] at hz
  refine ⟨?_, fun s hs P1 z S1 e1 => ?_, fun s hs => ?_, fun r1 s1 z h1 h2 h3 h4 => h.one r1 s1 z h1 h2 (hsub _ _ h3) (hsub _ _ h4), fun r1 s1 z z2 h1 h2 h3 h4 h5 => h.inj r1 s1 z z2 h1 h2 (hsub _ _ h3) (hsub _ _ h4) h5, fun r1 z h1 h2 => h.off r1 z h1 (hsub _ _ h2)⟩
  · obtain ⟨A, k1, k2⟩ := h.rows
    obtain ⟨A', g1, g2, g3⟩ := hR A k1
    refine ⟨A', g1, fun s hs => ?_⟩
    by_cases e2 : s = r
    · subst e2; exact g2
    · obtain ⟨a, b, c⟩ := k2 s hs
      unfold RowAt
      rw [upd_ne _ _ e2, g3 _ (by intro i hi; omega), g3 _ (by intro i hi; omega), g3 _ (by intro i hi; omega)]
      exact ⟨a, b, c⟩
  · by_cases hsr : s = r
    · subst hsr
      rw [upd_same] at e1
      -- where z stands in P ++ S
      have key : (∃ S2, P = P1 ++ z :: S2 ∧ S1 = S2 ++ S) ∨ (∃ P2, S = P2 ++ z :: S1 ∧ P1 = P ++ P2) := by
        rcases List.append_eq_append_iff.1 e1 with ⟨a', h1, h2⟩ | ⟨c', h1, h2⟩
        · exact .inr ⟨a', h2, h1⟩
        · cases c' with
          | nil => exact .inr ⟨[], by simpa using h2.symm, by simpa using h1.symm⟩
          | cons q c' =>
            injection h2 with h3 h4
            subst h3
            exact .inl ⟨c', h1, h4⟩
      have hzm : z ∈ Q s := by rw [e]; rcases key with ⟨S2, h1, _⟩ | ⟨P2, h1, _⟩ <;> rw [h1] <;> simp
      rcases key with ⟨S2, rfl, rfl⟩ | ⟨P2, rfl, rfl⟩
      · have eo := h.spot s hs P1 z (S2 ++ x :: S) (by rw [e]; simp)
        cases S2 with
        | nil =>
          have := hP P1 z rfl
          simpa using this
        | cons q S2 =>
          rw [ho _ (block_lt eo) (h.off s z hs hzm) (fun P0 y ey e3 => ?_) (fun y S0 ey e3 => ?_), eo]
          · simp
          · have hl := congrArg List.getLast? ey
            have hy : y ∈ Q s := by rw [e, ey]; simp
            obtain rfl := h.inj s s z y hs hs hzm hy e3
            rw [e, ey] at hnd
            have h2 : (P1 ++ z :: q :: S2) = P0 ++ [z] := ey
            have hn2 : (P1 ++ z :: q :: S2).Nodup := by rw [h2]; exact (List.nodup_append.1 hnd).1
            have hz1 : z ∉ q :: S2 := ((List.nodup_cons.1 (List.nodup_append.1 hn2).2.1)).1
            apply hz1
            have h3 : (P1 ++ z :: q :: S2).getLast? = some z := by rw [h2]; simp
            have h4 : (P1 ++ z :: q :: S2).getLast? = (q :: S2).getLast? := by simp [List.getLast?_append, List.getLast?_cons]
            rw [h4] at h3
            exact List.mem_of_getLast? h3
          · have hy : y ∈ Q s := by rw [e, ey]; simp
            obtain rfl := h.inj s s z y hs hs hzm hy e3
            rw [e, ey] at hnd
            have := (List.nodup_append.1 hnd).2.2 z (by simp) z (by simp)
            exact this rfl
      · have eo := h.spot s hs (P ++ x :: P2) z S1 (by rw [e]; simp)
        cases P2 with
        | nil =>
          have := hS z S1 rfl
          simpa using this
        | cons q P2 =>
          rw [ho _ (block_lt eo) (h.off s z hs hzm) (fun P0 y ey e3 => ?_) (fun y S0 ey e3 => ?_), eo]
          · simp [List.getLast?_append, List.getLast?_cons]
          · have hy : y ∈ Q s := by rw [e, ey]; simp
            obtain rfl := h.inj s s z y hs hs hzm hy e3
            rw [e, ey] at hnd
            have := (List.nodup_append.1 hnd).2.2 z (by simp) z (by simp)
            exact this rfl
          · injection ey with h3 h4
            subst h3
            have hy : q ∈ Q s := by rw [e]; simp
            obtain rfl := h.inj s s z q hs hs hzm hy e3
            rw [e] at hnd
            have h5 := (List.nodup_append.1 hnd).2.1
            have h6 := (List.nodup_cons.1 (List.nodup_cons.1 h5).2).1
            exact h6 (by simp)
    · rw [upd_ne _ _ hsr] at e1
      have hzm : z ∈ Q s := by rw [e1]; simp
      have eo := h.spot s hs P1 z S1 e1
      rw [ho _ (block_lt eo) (h.off s z hs hzm) (fun P0 y ey e3 => ?_) (fun y S0 ey e3 => ?_), eo]
      · have hy : y ∈ Q r := by rw [e, ey]; simp
        obtain rfl := h.inj s r z y hs hr hzm hy e3
        exact hsr (h.one s r z hs hr hzm hy)
      · have hy : y ∈ Q r := by rw [e, ey]; simp
        obtain rfl := h.inj s r z y hs hr hzm hy e3
        exact hsr (h.one s r z hs hr hzm hy)
  · by_cases hsr : s = r
    · subst hsr; rw [upd_same]; rw [e] at hnd
      exact hnd.sublist (List.Sublist.append (List.Sublist.refl _) (List.sublist_cons_self _ _))
    · rw [upd_ne _ _ hsr]; exact h.nd s hs
/-- An id is laid behind all others of a row. -/
theorem put (h : IsRows w R Q sp) (hr : r < 64) (hno : ∀ s, s < 64 → x ∉ Q s) (hN : w.heap.size ≤ N)
    (hR : ∀ A, w.heap[R]? = some (.cells A 109 (0, 0)) → ∃ A', W.heap[R]? = some (.cells A' 109 (0, 0)) ∧ RowAt A' (upd Q r (Q r ++ [x])) (updI sp x N) r ∧ ∀ j, (∀ i, i < 3 → j ≠ r * 3 + i) → A'[j]? = A[j]?)
    (hn : W.heap[N]? = some (.cells (spotA x R r ((Q r).getLast?.map sp) none) 114 (0, 0)))
    (hP : ∀ P0 y, Q r = P0 ++ [y] → W.heap[sp y]? = some (.cells (spotA y R r (P0.getLast?.map sp) (some N)) 114 (0, 0)))
    (ho : ∀ b, b < w.heap.size → b ≠ R → (∀ P0 y, Q r = P0 ++ [y] → b ≠ sp y) → W.heap[b]? = w.heap[b]?) : IsRows W R (upd Q r (Q r ++ [x])) (updI sp x N) := by
  have hne : ∀ s z, s < 64 → z ∈ Q s → z ≠ x := fun s z hs hz e => hno s hs (e ▸ hz)
  have hsp : ∀ s z, s < 64 → z ∈ Q s → updI sp x N z = sp z := fun s z hs hz => updI_ne _ _ (hne s z hs hz)
  have hmap : ∀ (o : Option Int), (∀ z, o = some z → ∃ s, s < 64 ∧ z ∈ Q s) → o.map (updI sp x N) = o.map sp := fun o ho => by
    cases o with
    | none => rfl
    | some z => obtain ⟨s, h1, h2⟩ := ho z rfl; simp [hsp s z h1 h2]
  have hhead : ∀ (S : List Int), (∀ z ∈ S, ∃ s, s < 64 ∧ z ∈ Q s) → S.head?.map (updI sp x N) = S.head?.map sp := fun S hS => hmap _ (fun z hz => hS z (List.mem_of_head? hz))
  have hlast : ∀ (S : List Int), (∀ z ∈ S, ∃ s, s < 64 ∧ z ∈ Q s) → S.getLast?.map (updI sp x N) = S.getLast?.map sp := fun S hS => hmap _ (fun z hz => hS z (List.mem_of_getLast? hz))
  have hsub : ∀ s z, s < 64 → z ∈ upd Q r (Q r ++ [x]) s → z ∈ Q s ∨ z = x ∧ s = r := fun s z hs hz => by
    by_cases e : s = r
    · subst e; rw [upd_same] at hz
      rcases List.mem_append.1 hz with h | h
      · exact .inl h
      · exact .inr ⟨by simpa using h, rfl⟩
    · rw [upd_ne _ _ e] at hz; exact .inl hz
  refine ⟨?_, fun s hs P1 z S1 e1 => ?_, fun s hs => ?_, fun r1 s1 z h1 h2 h3 h4 => ?_, fun r1 s1 z z2 h1 h2 h3 h4 h5 => ?_, fun r1 z h1 h2 => ?_⟩
  · obtain ⟨A, k1, k2⟩ := h.rows
    obtain ⟨A', g1, g2, g3⟩ := hR A k1
    refine ⟨A', g1, fun s hs => ?_⟩
    by_cases e2 : s = r
    · subst e2; exact g2
    · obtain ⟨a, b, c⟩ := k2 s hs
      unfold RowAt
      rw [upd_ne _ _ e2, g3 _ (by intro i hi; omega), g3 _ (by intro i hi; omega), g3 _ (by intro i hi; omega), hhead _ (fun z hz => ⟨s, hs, hz⟩), hlast _ (fun z hz => ⟨s, hs, hz⟩)]
      exact ⟨a, b, c⟩
  · by_cases e2 : s = r
    · subst e2
      rw [upd_same] at e1
      rcases List.eq_nil_or_concat S1 with rfl | ⟨S2, q, rfl⟩
      · have h1 : Q s = P1 ∧ x = z := by
          have := List.append_inj' e1 rfl
          exact ⟨this.1, by simpa using this.2⟩
        obtain ⟨rfl, rfl⟩ := h1
        rw [updI_same, hlast _ (fun z hz => ⟨s, hs, hz⟩)]
        exact hn
      · have h1 : Q s = P1 ++ z :: S2 ∧ x = q := by
          have e3 : Q s ++ [x] = (P1 ++ z :: S2) ++ [q] := by rw [e1]; simp
          have := List.append_inj' e3 rfl
          exact ⟨this.1, by simpa using this.2⟩
        obtain ⟨h2, rfl⟩ := h1
        have hzm : z ∈ Q s := by rw [h2]; simp
        have hPm : ∀ q ∈ P1, ∃ s, s < 64 ∧ q ∈ Q s := fun q hq => ⟨s, hs, by rw [h2]; simp [hq]⟩
        rw [hsp s z hs hzm, hlast _ hPm]
        cases S2 with
        | nil =>
          have := hP P1 z h2
          rw [this]; simp [updI_same]
        | cons t S2 =>
          have eo := h.spot s hs P1 z (t :: S2) h2
          have htm : t ∈ Q s := by rw [h2]; simp
          rw [ho _ (block_lt eo) (h.off s z hs hzm) (fun P0 y ey e3 => ?_), eo]
          · simp [hsp s t hs htm]
          · have hy : y ∈ Q s := by rw [ey]; simp
            obtain rfl := h.inj s s z y hs hs hzm hy e3
            have hnd := h.nd s hs
            have h3 : (Q s).getLast? = some z := by rw [ey]; simp
            have h4 : (Q s).getLast? = (t :: S2).getLast? := by rw [h2]; simp [List.getLast?_append, List.getLast?_cons]
            rw [h2] at hnd
            have hz1 : z ∉ t :: S2 := ((List.nodup_cons.1 (List.nodup_append.1 hnd).2.1)).1
            rw [h4] at h3
            exact hz1 (List.mem_of_getLast? h3)
    · rw [upd_ne _ _ e2] at e1
      have hzm : z ∈ Q s := by rw [e1]; simp
      have eo := h.spot s hs P1 z S1 e1
      rw [hsp s z hs hzm, hlast _ (fun q hq => ⟨s, hs, by rw [e1]; simp [hq]⟩), hhead _ (fun q hq => ⟨s, hs, by rw [e1]; simp [hq]⟩), ho _ (block_lt eo) (h.off s z hs hzm) (fun P0 y ey e3 => ?_), eo]
      have hy : y ∈ Q r := by rw [ey]; simp
      obtain rfl := h.inj s r z y hs hr hzm hy e3
      exact e2 (h.one s r z hs hr hzm hy)
  · by_cases e2 : s = r
    · subst e2; rw [upd_same]
      rw [List.nodup_append]
      refine ⟨h.nd s hs, by simp, fun a ha b hb => ?_⟩
      rw [List.mem_singleton] at hb
      subst hb
      exact hne s a hs ha
    · rw [upd_ne _ _ e2]; exact h.nd s hs
  · rcases hsub r1 z h1 h3 with a | ⟨a, a2⟩ <;> rcases hsub s1 z h2 h4 with b | ⟨b, b2⟩
    · exact h.one r1 s1 z h1 h2 a b
    · exact absurd b (hne r1 z h1 a)
    · exact absurd a (hne s1 z h2 b)
    · rw [a2, b2]
  · rcases hsub r1 z h1 h3 with a | ⟨a, a2⟩ <;> rcases hsub s1 z2 h2 h4 with b | ⟨b, b2⟩
    · rw [hsp r1 z h1 a, hsp s1 z2 h2 b] at h5
      exact h.inj r1 s1 z z2 h1 h2 a b h5
    · subst b
      rw [hsp r1 z h1 a, updI_same] at h5
      have := h.lts h1 a
      omega
    · subst a
      rw [hsp s1 z2 h2 b, updI_same] at h5
      have := h.lts h2 b
      omega
    · rw [a, b]
  · rcases hsub r1 z h1 h2 with a | ⟨a, a2⟩
    · rw [hsp r1 z h1 a]; exact h.off r1 z h1 a
    · subst a
      rw [updI_same]
      have := h.ltR
      omega
end IsRows
end Ce
end Go.Proofs.Ytejijddhmckgiaa
