/- Who waits, told of the program's object and of the document's own by one answer. -/
import Derived.Test.YtmngaedcckjfoabWaitRef
namespace Go.Proofs.Ytmngaedcckjfoab
open Go.RowKit Go.Lib Fx Ho Gr Qu Rw Wt
set_option linter.unusedVariables false
namespace Wx
variable {W0 W W' : World} {p q : Nat} {H Hx H' : Home} {Z Zx Z' : Nat → List Int} {b : Nat}
theorem sw_stay {r : Value} {e : Ending} {W' : World} (h : Sw W0 W p H Z) (hs : Still r W e W') : Wt.Step r W0 W p H Z e W' := ⟨hs.1, H, hs.2 ▸ Wrote.refl _ _, hs.2 ▸ h⟩
theorem sx_stay {r : Value} {e : Ending} {W' : World} (h : Sx W0 W p H Z) (hs : Still r W e W') : StepX r W0 W p H Z e W' := ⟨hs.1, H, hs.2 ▸ Wrote.refl _ _, hs.2 ▸ h⟩
theorem first_at (Z : Nat → List Int) (g : Int) : ∀ n, n ≤ 32 → (∀ j, j < n → g ∉ Z j) ∨ ∃ a A B, a < n ∧ At Z g a A B
  | 0, _ => .inl fun j hj => by omega
  | n + 1, hn => by
    rcases first_at Z g n (by omega) with h | ⟨a, A, B, h1, h2⟩
    · by_cases hg : g ∈ Z n
      · obtain ⟨A, B, e, hno⟩ := first_of hg
        exact .inr ⟨n, A, B, by omega, by omega, h, e, hno⟩
      · exact .inl fun j hj => by
          by_cases e : j = n
          · subst e; exact hg
          · exact h j (by omega)
    · exact .inr ⟨a, A, B, by omega, h2⟩
theorem upd_len {Z : Nat → List Int} {a : Nat} {zs : List Int} {c : Nat} (h : ∀ j, j < 32 → (Z j).length ≤ b) (hz : zs.length ≤ c) (hc : b ≤ c) : ∀ j, j < 32 → (upd Z a zs j).length ≤ c := fun j hj => by
  by_cases e : j = a
  · subst e; rw [upd_same]; exact hz
  · rw [upd_ne _ _ e]; have := h j hj; omega
theorem wait_both (Z : Nat → List Int) (at' g : Int) (hb : ∀ j, j < 32 → (Z j).length ≤ b) (hb2 : b < 1000) : ∃ (r : Int) (Z2 : Nat → List Int), (∀ j, j < 32 → (Z2 j).length ≤ b + 1) ∧
    (∀ {W0 W p H}, Sw W0 W p H Z → Calls Try.prog 38 #[.pointer (some ⟨p, 0, none⟩), .int .i64 at', .int .i64 g] W (Wt.Step (.int .i64 r) W0 W p H Z2)) ∧
    (∀ {W0 W p H}, Sx W0 W p H Z → Calls Try.prog 39 #[.pointer (some ⟨p, 0, none⟩), .int .i64 at', .int .i64 g] W (StepX (.int .i64 r) W0 W p H Z2)) := by
  by_cases ho : at' < 0 ∨ 32 ≤ at'
  · exact ⟨2, Z, fun j hj => by have := hb j hj; omega, fun h => (wait_range at' g ho _).mono fun _ _ => sw_stay h, fun h => (rwait_range at' g ho _).mono fun _ _ => sx_stay h⟩
  · obtain ⟨a, rfl⟩ : ∃ a : Nat, at' = (a : Int) := ⟨at'.toNat, by omega⟩
    have ha : a < 32 := by omega
    rcases first_at Z g 32 (Nat.le_refl _) with h | ⟨c, A, B, _, h⟩
    · exact ⟨0, upd Z a (Z a ++ [g]), upd_len hb (by have := hb a ha; simp; omega) (by omega), fun hs => wait_in hs ha g h (by have := hb a ha; omega), fun hs => rwait_in hs ha g h (by have := hb a ha; omega)⟩
    · exact ⟨5, Z, fun j hj => by have := hb j hj; omega, fun hs => (wait_busy hs ha g h).mono fun _ _ => sw_stay hs, fun hs => (rwait_busy hs ha g h).mono fun _ _ => sx_stay hs⟩
theorem wake_both (Z : Nat → List Int) (at' : Int) (hb : ∀ j, j < 32 → (Z j).length ≤ b) : ∃ (r : Int) (o : Bool) (Z2 : Nat → List Int), (∀ j, j < 32 → (Z2 j).length ≤ b) ∧
    (∀ {W0 W p H}, Sw W0 W p H Z → Calls Try.prog 40 #[.pointer (some ⟨p, 0, none⟩), .int .i64 at'] W (Wt.Step (.tuple #[.int .i64 r, .bool o]) W0 W p H Z2)) ∧
    (∀ {W0 W p H}, Sx W0 W p H Z → Calls Try.prog 41 #[.pointer (some ⟨p, 0, none⟩), .int .i64 at'] W (StepX (.tuple #[.int .i64 r, .bool o]) W0 W p H Z2)) := by
  by_cases ho : at' < 0 ∨ 32 ≤ at'
  · exact ⟨0, false, Z, hb, fun h => (wake_out at' ho _).mono fun _ _ => sw_stay h, fun h => (rwake_out at' ho _).mono fun _ _ => sx_stay h⟩
  · obtain ⟨a, rfl⟩ : ∃ a : Nat, at' = (a : Int) := ⟨at'.toNat, by omega⟩
    have ha : a < 32 := by omega
    cases hz : Z a with
    | nil => exact ⟨0, false, Z, hb, fun h => (wake_none h ha hz).mono fun _ _ => sw_stay h, fun h => (rwake_none h ha hz).mono fun _ _ => sx_stay h⟩
    | cons g T => exact ⟨g, true, upd Z a T, upd_len hb (by have := hb a ha; rw [hz] at this; simp at this; omega) (Nat.le_refl _), fun h => wake_some h ha hz, fun h => rwake_some h ha hz⟩
theorem del_both (Z : Nat → List Int) (g : Int) (hb : ∀ j, j < 32 → (Z j).length ≤ b) (hb2 : b < 1000) : ∃ (o : Bool) (Z2 : Nat → List Int), (∀ j, j < 32 → (Z2 j).length ≤ b) ∧
    (∀ {W0 W p H}, Sw W0 W p H Z → Calls Try.prog 42 #[.pointer (some ⟨p, 0, none⟩), .int .i64 g] W (Wt.Step (.bool o) W0 W p H Z2)) ∧
    (∀ {W0 W p H}, Sx W0 W p H Z → Calls Try.prog 43 #[.pointer (some ⟨p, 0, none⟩), .int .i64 g] W (StepX (.bool o) W0 W p H Z2)) := by
  rcases first_at Z g 32 (Nat.le_refl _) with h | ⟨a, A, B, _, h⟩
  · exact ⟨false, Z, hb, fun hs => (del_no hs g h).mono fun _ _ => sw_stay hs, fun hs => (rdel_no hs g h).mono fun _ _ => sx_stay hs⟩
  · have hr := hb a h.a32
    have hl : (A ++ B).length ≤ b := by rw [h.row] at hr; simp at hr ⊢; omega
    exact ⟨true, upd Z a (A ++ B), upd_len hb hl (Nat.le_refl _), fun hs => del_yes hs g h (by omega), fun hs => rdel_yes hs g h (by omega)⟩
set_option maxRecDepth 100000 in
theorem all_out (a : Int) (ha : a < 0 ∨ 32 ≤ a) (w : World) : Calls Try.prog 46 #[.pointer (some ⟨p, 0, none⟩), .int .i64 a] w (Still (.slice none 0 0) w) := by
  have cp := place_out a ha w
  clear ha
  go_enter Try.func46, Try.ntmps46
  go_wp2_with fail
  with_reducible refine Calls.mono (cp) ?_
  rintro e w2 ⟨rfl, rfl⟩
  clear cp
  go_wp2_with fail
  go_ret
  exact ⟨rfl, rfl⟩
/-- Both objects. -/
structure Wq (W0 W : World) (p q : Nat) (H Hx : Home) (Z Zx : Nat → List Int) : Prop where
  s : Sw W0 W p H Z
  x : Sx W0 W q Hx Zx
  o : Off H Hx
theorem sw_low (h : Sw W0 W p H Z) : Low W0.heap.size H := by obtain ⟨_, _, h, _, _⟩ := h; exact h
theorem Wq.below (h : Wq W0 W p q H Hx Z Zx) (hb : Below W.heap.size W W') : Wq W0 W' p q H Hx Z Zx := ⟨h.s.below hb, h.x.below hb, h.o⟩
theorem Wq.left (h : Wq W0 W p q H Hx Z Zx) (hw : Wrote H W H' W') (hs : Sw W0 W' p H' Z') : Wq W0 W' p q H' Hx Z' Zx :=
  ⟨hs, h.x.wrote hw (fun k h1 h2 => h.o k h2 h1) (sw_low h.s), fun k h1 h2 => (hw.home k h1).elim (fun e => h.o k e h2) (fun e => by have := h.x.lt h2; omega)⟩
theorem Wq.right (h : Wq W0 W p q H Hx Z Zx) (hw : Wrote Hx W H' W') (hs : Sx W0 W' q H' Z') : Wq W0 W' p q H H' Z Z' :=
  ⟨h.s.wrote hw h.o h.x.low, hs, fun k h1 h2 => (hw.home k h2).elim (fun e => h.o k h1 e) (fun e => by have := h.s.lt h1; omega)⟩
def Wr (W0 W : World) (p q : Nat) (Z : Nat → List Int) : Prop := ∃ H Hx, Wq W0 W p q H Hx Z Z
theorem Wr.out (h : Wr W0 W p q Z) : Below W0.heap.size W0 W := by obtain ⟨_, _, h⟩ := h; exact h.s.out
theorem Wr.below (h : Wr W0 W p q Z) (hb : Below W.heap.size W W') : Wr W0 W' p q Z := by obtain ⟨_, _, h⟩ := h; exact ⟨_, _, h.below hb⟩
/-- Both objects, behind a world that is known. -/
structure Wk (W0 C W : World) (p q : Nat) (H Hx : Home) (Z Zx : Nat → List Int) : Prop where
  q : Wq W0 W p q H Hx Z Zx
  b : Below C.heap.size C W
theorem Wk.below {C : World} (h : Wk W0 C W p q H Hx Z Zx) (hb : Below W.heap.size W W') : Wk W0 C W' p q H Hx Z Zx := ⟨h.q.below hb, h.b.trans (hb.mono h.b.size)⟩
/-- A block apart from both. -/
theorem Wq.keep (h : Wq W0 W p q H Hx Z Zx) (hw : Wrote H W H' W') {z : Nat} {o : Obj} (hz : W.heap[z]? = some o) (h1 : ¬ H z) : W'.heap[z]? = some o := (hw.block z (block_lt hz) h1).trans hz
/-- Two calls, one on each, in either order: each answers R, and behind both they hold the same. -/
structure Two (W0 W : World) (p q z : Nat) (o : Obj) (f g : FuncId) (A B : Array Value) (r : Value) (Z' : Nat → List Int) : Prop where
  l : ∀ V, Below W.heap.size W V → Calls Try.prog f A V fun e w3 => e = .returned r ∧ w3.heap[z]? = some o ∧ ∀ V', Below w3.heap.size w3 V' → Calls Try.prog g B V' fun e w4 => e = .returned r ∧ w4.heap[z]? = some o ∧ Wr W0 w4 p q Z'
  r : ∀ V, Below W.heap.size W V → Calls Try.prog g B V fun e w3 => e = .returned r ∧ w3.heap[z]? = some o ∧ ∀ V', Below w3.heap.size w3 V' → Calls Try.prog f A V' fun e w4 => e = .returned r ∧ w4.heap[z]? = some o ∧ Wr W0 w4 p q Z'
theorem two_of (h : Wq W0 W p q H Hx Z Z) {z : Nat} {o : Obj} (hz : W.heap[z]? = some o) (n1 : ¬ H z) (n2 : ¬ Hx z) {f g : FuncId} {A B : Array Value} {r : Value}
    (c1 : ∀ {W0 W H}, Sw W0 W p H Z → Calls Try.prog f A W (Wt.Step r W0 W p H Z')) (c2 : ∀ {W0 W H}, Sx W0 W q H Z → Calls Try.prog g B W (StepX r W0 W q H Z')) : Two W0 W p q z o f g A B r Z' := by
  have hlt := block_lt hz
  constructor
  · intro V hb
    have hV := h.below hb
    have hzV := (hb.block z hlt).trans hz
    refine (c1 hV.s).mono fun e w3 ⟨e1, H3, hw3, hs3⟩ => ⟨e1, (hw3.block z (block_lt hzV) n1).trans hzV, fun V' hb' => ?_⟩
    have h3 := (hV.left hw3 hs3).below hb'
    have hz3 := (hw3.block z (block_lt hzV) n1).trans hzV
    have hz4 := (hb'.block z (block_lt hz3)).trans hz3
    exact (c2 h3.x).mono fun e w4 ⟨e2, H4, hw4, hs4⟩ => ⟨e2, (hw4.block z (block_lt hz4) n2).trans hz4, _, _, h3.right hw4 hs4⟩
  · intro V hb
    have hV := h.below hb
    have hzV := (hb.block z hlt).trans hz
    refine (c2 hV.x).mono fun e w3 ⟨e1, H3, hw3, hs3⟩ => ⟨e1, (hw3.block z (block_lt hzV) n2).trans hzV, fun V' hb' => ?_⟩
    have h3 := (hV.right hw3 hs3).below hb'
    have hz3 := (hw3.block z (block_lt hzV) n2).trans hzV
    have hz4 := (hb'.block z (block_lt hz3)).trans hz3
    exact (c1 h3.s).mono fun e w4 ⟨e2, H4, hw4, hs4⟩ => ⟨e2, (hw4.block z (block_lt hz4) n1).trans hz4, _, _, h3.left hw4 hs4⟩
theorem new_both (w w1 : World) (h : Sw w w1 p H (fun _ => [])) : Wr w (w1.alloc (.cells waits0 65)) p w1.heap.size (fun _ => []) := by
  have hb := below_alloc (Below.refl _ w1) (.cells waits0 65)
  refine ⟨H, Wt.home w1.heap.size fun _ => .slice none 0 0, h.below hb, ⟨_, ⟨⟨_, heap_alloc_new _ _, by decide, fun j hj => ?_⟩, fun j hj => offrow_nil _, fun j hj => by simp [Value.ownBlock], fun i j hi hj hij k hk => by simp [Value.ownBlock] at hk⟩, fun k hk => ?_, h.out.trans (hb.mono h.out.size), rfl⟩, fun k h1 h2 => ?_⟩
  · unfold waits0; rw [Array.getElem?_replicate, if_pos hj]
  · rcases hk with rfl | ⟨j, hj, hk⟩
    · exact h.out.size
    · simp [Value.ownBlock] at hk
  · rcases h2 with rfl | ⟨j, hj, hk⟩
    · have := h.lt h1; omega
    · simp [Value.ownBlock] at hk
end Wx
end Go.Proofs.Ytmngaedcckjfoab
