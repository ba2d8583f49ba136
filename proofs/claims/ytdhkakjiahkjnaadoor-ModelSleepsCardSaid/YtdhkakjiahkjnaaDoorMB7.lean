import Derived.Test.YtdhkakjiahkjnaaDoorMB5
import Derived.WalkKit
import Derived.ProofKit
/- ModelCounts: two goroutines that count down, step by step. -/
namespace Go.Proofs.YtdhkakjiahkjnaaDoor
open Go.RowKit Go.Lib Fx Ho Gr
set_option linter.unusedVariables false
namespace Md
open Cd (Ins zi ca c4 okI hasB bnd kd okAt ca_len)
variable {k j a b : Nat} {W0 w w' W : World} {p K N : Nat} {M M' : Mo} {m0 m1 x : Int}
/-- A block of instructions is a row of its own. -/
theorem pw_lit (w : World) (l : List Ins) (hl : l.length ≤ 1000) : Pw w (w.alloc (.cells (ca l).toArray 26)) (.slice (some ⟨w.heap.size, 0, none⟩) l.length l.length) l := by
  have hb := heap_alloc_new w (.cells (ca l).toArray 26)
  have hmx : (1000000 : Nat) ≤ maxLen := by unfold maxLen; omega
  refine ⟨⟨_, w.heap.size, 0, l.length, rfl, ⟨Nat.le_refl _, fun _ => rfl, fun _ => block_lt hb, by rw [ca_len], fun j u hj => ?_, fun j hj => by omega⟩, ⟨by omega, fun j hj => frozen_of_row _ _ _ _ _ hb⟩, .inl ⟨rfl, block_lt hb⟩⟩, fun k e => by obtain rfl : w.heap.size = k := Option.some.inj e; exact Nat.le_refl _, below_alloc (Below.refl _ _) _⟩
  rw [Nat.zero_add]
  exact cell_of hb (by rw [← hj]; simp)
def zC : List Int := List.replicate 16 0
def c0 (k : Nat) : List Ins := [(16, (k / 256 : Nat), (k % 256 : Nat), 0), (4, 1, 2, 0), (17, 2, 0, 0)]
def cA : List Ins := [(8, 1, 0, 0)]
def c1 (j : Nat) : List Ins := [(16, (j / 256 : Nat), (j % 256 : Nat), 0), (4, 1, 2, 0), (17, 1, 0, 0)]
def fsC (k j : Nat) : List (List Ins) := [cA ++ c0 k, c1 j]
theorem pgC (hk : k < 700) (hj : j < 50) : Pg 0 (fsC k j) := by
  have b1 : k / 256 < 256 := by omega
  have b2 : k % 256 < 256 := by omega
  have b3 : j / 256 < 256 := by omega
  have b4 : j % 256 < 256 := by omega
  refine pg_two (by omega) (by show 1 ≤ 4; omega) (by show 4 ≤ 64; omega) ⟨by show 1 ≤ 3; omega, by show 3 ≤ 64; omega⟩ (fun x hx => ?_) (fun x hx => ?_)
  · simp only [cA, c0, List.cons_append, List.nil_append, List.mem_cons, List.not_mem_nil, or_false] at hx
    rcases hx with rfl | rfl | rfl | rfl <;> simp [okI, hasB, bnd, kd, Cd.kinds, cA, c0] <;> omega
  · simp only [c1, List.mem_cons, List.not_mem_nil, or_false] at hx
    rcases hx with rfl | rfl | rfl <;> simp [okI, hasB, bnd, kd, Cd.kinds, c1] <;> omega
/-- A goroutine that counts down from c, begun at s: behind so many steps where it stands, its state, how often it moved. -/
inductive Th (f s c : Nat) : Nat → Gor → Int → Nat → Prop
  | init : Th f s c 0 ⟨f, s, 0, zC⟩ 1 0
  | top (r : Nat) : r ≤ c → Th f s c (2 * r + 1) ⟨f, s + 1, c - r, zC⟩ 1 r
  | mid (r : Nat) : r ≤ c → Th f s c (2 * r + 2) ⟨f, s + 2, c - r, zC⟩ 1 (r + 1)
  | out : Th f s c (2 * c + 3) ⟨f, s + 3, 0, zC⟩ 1 (c + 1)
  | done : Th f s c (2 * c + 4) ⟨f, s + 4, 0, zC⟩ 5 (c + 1)
variable {f s c n m : Nat} {r r0 r1 : Gor} {t t0 t1 : Int}
theorem Th.st (h : Th f s c n r t m) : (t = 1 ∧ n ≤ 2 * c + 3) ∨ (t = 5 ∧ n = 2 * c + 4 ∧ m = c + 1) := by
  cases h with
  | init => exact .inl ⟨rfl, by omega⟩
  | top r h => exact .inl ⟨rfl, by omega⟩
  | mid r h => exact .inl ⟨rfl, by omega⟩
  | out => exact .inl ⟨rfl, by omega⟩
  | done => exact .inr ⟨rfl, rfl, rfl⟩
def mC (r0 : Gor) (t0 : Int) (r1 : Gor) (t1 : Int) : Mo := ⟨[r0, r1], [t0, t1], [], [], 0, [], 0, fun _ => []⟩
theorem spC : step (fsC k j) (mo0 0) 0 = mC ⟨0, 1, 0, zC⟩ 1 ⟨1, 0, 0, zC⟩ 1 ∧ comM (fsC k j) (mo0 0) 0 = comV 0 0 0 8 1 false := ⟨rfl, rfl⟩
/-- What is told of a step: it moved, or not. -/
def Tells (op : Int) (m m' : Nat) (t : Int) : Prop := (op = 4 ∧ m' = m + 1 ∧ t = 1) ∨ (op ≠ 4 ∧ m' = m)
theorem st0 (h : Th 0 1 k n r t m) (ht : t = 1) : ∃ r' t' m' pc op, Th 0 1 k (n + 1) r' t' m' ∧ step (fsC k j) (mC r t r1 t1) 0 = mC r' t' r1 t1 ∧ comM (fsC k j) (mC r t r1 t1) 0 = comV 0 0 pc op 0 false ∧ Tells op m m' t' := by
  cases h with
  | init =>
    have hi : insAt (fsC k j) (mC (⟨0, 1, 0, zC⟩ : Gor) 1 r1 t1) 0 = ((16, ((k / 256 : Nat) : Int), ((k % 256 : Nat) : Int), 0) : Ins) := rfl
    have ho : outI (fsC k j) (mC (⟨0, 1, 0, zC⟩ : Gor) 1 r1 t1) 0 = (⟨[⟨0, 2, k - 0, zC⟩, r1], [2, t1], [], [], 0, [], 0, fun _ => []⟩, 0, 1, false) := by
      unfold outI; rw [hi]
      show ((⟨[⟨0, 2, 256 * (k / 256) + k % 256, zC⟩, r1], [2, t1], [], [], 0, [], 0, fun _ => []⟩ : Mo), (0 : Int), (1 : Int), false) = _
      rw [show 256 * (k / 256) + k % 256 = k - 0 by omega]
    exact ⟨⟨0, 2, k - 0, zC⟩, 1, _, _, _, .top 0 (Nat.zero_le _), by unfold step; rw [ho]; rfl, by unfold comM; rw [ho, hi]; rfl, .inr ⟨by show (16 : Int) ≠ 4; decide, rfl⟩⟩
  | top _ hq =>
    have hi : insAt (fsC k j) (mC (⟨0, 2, k - m, zC⟩ : Gor) 1 r1 t1) 0 = (4, 1, 2, 0) := rfl
    have ho : outI (fsC k j) (mC (⟨0, 2, k - m, zC⟩ : Gor) 1 r1 t1) 0 = (⟨[⟨0, 3, k - m, zC⟩, r1], [2, t1], [], [], 0, [], 0, fun _ => []⟩, 0, 1, false) := by
      unfold outI; rw [hi]; rfl
    exact ⟨⟨0, 3, k - m, zC⟩, 1, _, _, _, .mid m hq, by unfold step; rw [ho]; rfl, by unfold comM; rw [ho, hi]; rfl, .inl ⟨rfl, rfl, rfl⟩⟩
  | mid q hq =>
    by_cases e : q < k
    · obtain ⟨d, hd⟩ : ∃ d, k - q = d + 1 := ⟨k - q - 1, by omega⟩
      have hd2 : k - (q + 1) = d := by omega
      rw [hd]
      have hi : insAt (fsC k j) (mC (⟨0, 3, d + 1, zC⟩ : Gor) 1 r1 t1) 0 = (17, 2, 0, 0) := rfl
      have ho : outI (fsC k j) (mC (⟨0, 3, d + 1, zC⟩ : Gor) 1 r1 t1) 0 = (⟨[⟨0, 2, d, zC⟩, r1], [2, t1], [], [], 0, [], 0, fun _ => []⟩, 0, 1, false) := by
        unfold outI; rw [hi]
        show ((if 0 < d + 1 then _ else _ : Mo), (0 : Int), (1 : Int), false) = _
        rw [if_pos (Nat.succ_pos d)]; rfl
      exact ⟨⟨0, 2, d, zC⟩, 1, _, _, _, by have := Th.top (f := 0) (s := 1) (c := k) (q + 1) (by omega); rw [hd2] at this; exact this, by unfold step; rw [ho]; rfl, by unfold comM; rw [ho, hi]; rfl, .inr ⟨by decide, rfl⟩⟩
    · obtain rfl : q = k := by omega
      rw [Nat.sub_self]
      have hi : insAt (fsC q j) (mC (⟨0, 3, 0, zC⟩ : Gor) 1 r1 t1) 0 = (17, 2, 0, 0) := rfl
      have ho : outI (fsC q j) (mC (⟨0, 3, 0, zC⟩ : Gor) 1 r1 t1) 0 = (⟨[⟨0, 4, 0, zC⟩, r1], [2, t1], [], [], 0, [], 0, fun _ => []⟩, 0, 1, false) := by
        unfold outI; rw [hi]; rfl
      exact ⟨⟨0, 4, 0, zC⟩, 1, _, _, _, .out, by unfold step; rw [ho]; rfl, by unfold comM; rw [ho, hi]; rfl, .inr ⟨by decide, rfl⟩⟩
  | out =>
    have hi : insAt (fsC k j) (mC (⟨0, 4, 0, zC⟩ : Gor) 1 r1 t1) 0 = zi := rfl
    have ho : outI (fsC k j) (mC (⟨0, 4, 0, zC⟩ : Gor) 1 r1 t1) 0 = (⟨[⟨0, 5, 0, zC⟩, r1], [2, t1], [], [], 0, [], 0, fun _ => []⟩, 0, 5, false) := by
      unfold outI; rw [hi]; rfl
    exact ⟨⟨0, 5, 0, zC⟩, 5, _, _, _, .done, by unfold step; rw [ho]; rfl, by unfold comM; rw [ho, hi]; rfl, .inr ⟨by decide, rfl⟩⟩
  | done => exact absurd ht (by decide)
theorem st1 (h : Th 1 0 j n r t m) (ht : t = 1) : ∃ r' t' m' pc op, Th 1 0 j (n + 1) r' t' m' ∧ step (fsC k j) (mC r0 t0 r t) 1 = mC r0 t0 r' t' ∧ comM (fsC k j) (mC r0 t0 r t) 1 = comV 1 1 pc op 0 false ∧ Tells op m m' t' := by
  cases h with
  | init =>
    have hi : insAt (fsC k j) (mC r0 t0 (⟨1, 0, 0, zC⟩ : Gor) 1) 1 = ((16, ((j / 256 : Nat) : Int), ((j % 256 : Nat) : Int), 0) : Ins) := rfl
    have ho : outI (fsC k j) (mC r0 t0 (⟨1, 0, 0, zC⟩ : Gor) 1) 1 = (⟨[r0, ⟨1, 1, j - 0, zC⟩], [t0, 2], [], [], 0, [], 0, fun _ => []⟩, 0, 1, false) := by
      unfold outI; rw [hi]
      show ((⟨[r0, ⟨1, 1, 256 * (j / 256) + j % 256, zC⟩], [t0, 2], [], [], 0, [], 0, fun _ => []⟩ : Mo), (0 : Int), (1 : Int), false) = _
      rw [show 256 * (j / 256) + j % 256 = j - 0 by omega]
    exact ⟨⟨1, 1, j - 0, zC⟩, 1, _, _, _, .top 0 (Nat.zero_le _), by unfold step; rw [ho]; rfl, by unfold comM; rw [ho, hi]; rfl, .inr ⟨by show (16 : Int) ≠ 4; decide, rfl⟩⟩
  | top _ hq =>
    have hi : insAt (fsC k j) (mC r0 t0 (⟨1, 1, j - m, zC⟩ : Gor) 1) 1 = (4, 1, 2, 0) := rfl
    have ho : outI (fsC k j) (mC r0 t0 (⟨1, 1, j - m, zC⟩ : Gor) 1) 1 = (⟨[r0, ⟨1, 2, j - m, zC⟩], [t0, 2], [], [], 0, [], 0, fun _ => []⟩, 0, 1, false) := by
      unfold outI; rw [hi]; rfl
    exact ⟨⟨1, 2, j - m, zC⟩, 1, _, _, _, .mid m hq, by unfold step; rw [ho]; rfl, by unfold comM; rw [ho, hi]; rfl, .inl ⟨rfl, rfl, rfl⟩⟩
  | mid q hq =>
    by_cases e : q < j
    · obtain ⟨d, hd⟩ : ∃ d, j - q = d + 1 := ⟨j - q - 1, by omega⟩
      have hd2 : j - (q + 1) = d := by omega
      rw [hd]
      have hi : insAt (fsC k j) (mC r0 t0 (⟨1, 2, d + 1, zC⟩ : Gor) 1) 1 = (17, 1, 0, 0) := rfl
      have ho : outI (fsC k j) (mC r0 t0 (⟨1, 2, d + 1, zC⟩ : Gor) 1) 1 = (⟨[r0, ⟨1, 1, d, zC⟩], [t0, 2], [], [], 0, [], 0, fun _ => []⟩, 0, 1, false) := by
        unfold outI; rw [hi]
        show ((if 0 < d + 1 then _ else _ : Mo), (0 : Int), (1 : Int), false) = _
        rw [if_pos (Nat.succ_pos d)]; rfl
      exact ⟨⟨1, 1, d, zC⟩, 1, _, _, _, by have := Th.top (f := 1) (s := 0) (c := j) (q + 1) (by omega); rw [hd2] at this; exact this, by unfold step; rw [ho]; rfl, by unfold comM; rw [ho, hi]; rfl, .inr ⟨by decide, rfl⟩⟩
    · obtain rfl : q = j := by omega
      rw [Nat.sub_self]
      have hi : insAt (fsC k q) (mC r0 t0 (⟨1, 2, 0, zC⟩ : Gor) 1) 1 = (17, 1, 0, 0) := rfl
      have ho : outI (fsC k q) (mC r0 t0 (⟨1, 2, 0, zC⟩ : Gor) 1) 1 = (⟨[r0, ⟨1, 3, 0, zC⟩], [t0, 2], [], [], 0, [], 0, fun _ => []⟩, 0, 1, false) := by
        unfold outI; rw [hi]; rfl
      exact ⟨⟨1, 3, 0, zC⟩, 1, _, _, _, .out, by unfold step; rw [ho]; rfl, by unfold comM; rw [ho, hi]; rfl, .inr ⟨by decide, rfl⟩⟩
  | out =>
    have hi : insAt (fsC k j) (mC r0 t0 (⟨1, 3, 0, zC⟩ : Gor) 1) 1 = zi := rfl
    have ho : outI (fsC k j) (mC r0 t0 (⟨1, 3, 0, zC⟩ : Gor) 1) 1 = (⟨[r0, ⟨1, 4, 0, zC⟩], [t0, 2], [], [], 0, [], 0, fun _ => []⟩, 0, 5, false) := by
      unfold outI; rw [hi]; rfl
    exact ⟨⟨1, 4, 0, zC⟩, 5, _, _, _, .done, by unfold step; rw [ho]; rfl, by unfold comM; rw [ho, hi]; rfl, .inr ⟨by decide, rfl⟩⟩
  | done => exact absurd ht (by decide)
theorem stX0 : stX (mC r0 t0 r1 t1) 0 = t0 := by unfold stX; rw [if_pos ⟨by decide, by show (0 : Int) < 2; decide⟩]; rfl
theorem stX1 : stX (mC r0 t0 r1 t1) 1 = t1 := by unfold stX; rw [if_pos ⟨by decide, by show (1 : Int) < 2; decide⟩]; rfl
/-- The model and how often each moved. -/
structure Cs (W0 w : World) (k j p K N : Nat) (M : Mo) (m0 m1 : Int) : Prop where
  ms : Ms W0 w 0 (fsC k j) p M K (fun k => k ∈ [N])
  mv : w.heap[N]? = some (.cells #[.int .i64 m0, .int .i64 m1] 3 (0, 0))
theorem Cs.var (h : Cs W0 w k j p K N M m0 m1) (A : Array Value) (t : TypeId) : Cs W0 (w.alloc (.cells A t)) k j p K N M m0 m1 ∧ (w.alloc (.cells A t)).heap[w.heap.size]? = some (.cells A t (0, 0)) := by
  obtain ⟨h1, h2, h3⟩ := h.ms.var A t
  exact ⟨⟨h1.sub (fun k hk => List.mem_cons_of_mem _ hk), (h3.block (List.mem_cons_self)).trans h.mv⟩, h2⟩
theorem Cs.turn {K' : Nat} (h : Cs W0 w k j p K N M m0 m1) (h1 : Ms W0 w' 0 (fsC k j) p M' K' (fun k => k ∈ [N])) (h2 : Kept (fun k => k ∈ [N]) w w') : Cs W0 w' k j p K' N M' m0 m1 := ⟨h1, (h2.block (List.mem_cons_self)).trans h.mv⟩
theorem Cs.set0 (h : Cs W0 w k j p K N M m0 m1) (x : Int) : Cs W0 (w.setCell ⟨N, 0, none⟩ (.int .i64 x)) k j p K N M x m1 :=
  ⟨h.ms.wrote (wrote_setCell (a := ⟨N, 0, none⟩) (H := fun k => k = N) rfl rfl rfl rfl rfl) (fun k hk => by rw [hk]; exact List.mem_cons_self), heap_setCell_same w N 0 _ _ (.int .i64 x) h.mv⟩
theorem Cs.set1 (h : Cs W0 w k j p K N M m0 m1) (x : Int) : Cs W0 (w.setCell ⟨N, 1, none⟩ (.int .i64 x)) k j p K N M m0 x :=
  ⟨h.ms.wrote (wrote_setCell (a := ⟨N, 1, none⟩) (H := fun k => k = N) rfl rfl rfl rfl rfl) (fun k hk => by rw [hk]; exact List.mem_cons_self), heap_setCell_same w N 1 _ _ (.int .i64 x) h.mv⟩
theorem cs_do (h : Cs W0 w k j p K N M m0 m1) (hP : Pg 0 (fsC k j)) (hK : K < 90000) {g : Nat} (hG : M.gs.length = 1 ∨ M.gs.length = 2) (hg : g < M.gs.length) (h1 : M.st.getD g 0 = 1) : Calls Tryd.prog 6 #[.pointer (some ⟨p, 0, none⟩), .int .i64 g] w fun e w' => e = .returned (.tuple #[comM (fsC k j) M g, .int .i64 0]) ∧ Cs W0 w' k j p (K + 1) N (step (fsC k j) M g) m0 m1 :=
  (ms_step h.ms hP hK (by omega) hg h1).mono fun e w' ⟨he, a1, a2⟩ => ⟨he, h.turn a1 a2⟩
theorem cs_not (h : Cs W0 w k j p K N (mC r0 t0 r1 t1) m0 m1) (hP : Pg 0 (fsC k j)) (hK : K < 90000) (h1 : t1 = 5) : Calls Tryd.prog 6 #[.pointer (some ⟨p, 0, none⟩), .int .i64 1] w fun e w' => e = .returned (.tuple #[.agg #[.int .i64 0, .int .i64 0, .int .i64 0, .int .i64 0, .int .i64 0, .bool false], .int .i64 5]) ∧ Cs W0 w' k j p (K + 1) N (mC r0 t0 r1 t1) m0 m1 :=
  (ms_do h.ms hP hK (by show 2 < 1000; omega) 1).mono fun e w' ⟨cv, er, M', he, hd, a1, a2⟩ => by
    cases hd with
    | yes g e1 e2 e3 =>
      obtain rfl : g = 1 := by omega
      have e3 : t1 = 1 := e3
      omega
    | not g e1 e2 e3 => exact ⟨he, h.turn a1 a2⟩
    | none e1 => exact absurd (show (0 : Int) ≤ 1 ∧ (1 : Int) < 2 by omega) e1
theorem cs_s0 (h : Cs W0 w k j p K N (mC r0 t0 r1 t1) m0 m1) : Calls Tryd.prog 7 #[.pointer (some ⟨p, 0, none⟩), .int .i64 0] w (Still (.int .i64 t0) w) := by
  have := ms_state h.ms 0
  rwa [stX0] at this
theorem cs_s1 (h : Cs W0 w k j p K N (mC r0 t0 r1 t1) m0 m1) : Calls Tryd.prog 7 #[.pointer (some ⟨p, 0, none⟩), .int .i64 1] w (Still (.int .i64 t1) w) := by
  have := ms_state h.ms 1
  rwa [stX1] at this
theorem cs_s00 (h : Cs W0 w k j p K N (mo0 0) m0 m1) : Calls Tryd.prog 7 #[.pointer (some ⟨p, 0, none⟩), .int .i64 0] w (Still (.int .i64 1) w) := ms_state h.ms 0
theorem cs_stuck (h : Cs W0 w k j p K N (mC r0 5 r1 5) m0 m1) : Calls Tryd.prog 8 #[.pointer (some ⟨p, 0, none⟩)] w (Still (.bool false) w) := ms_stuck h.ms
theorem Cs.below (h : Cs W0 w k j p K N M m0 m1) (hb : Below w.heap.size w w') : Cs W0 w' k j p K N M m0 m1 := ⟨h.ms.below hb, (hb.block _ (block_lt h.mv)).trans h.mv⟩
/-- As a round begins. -/
def Rd (W0 w : World) (k j p N i : Nat) : Prop :=
  (i = 0 ∧ Cs W0 w k j p 0 N (mo0 0) 0 0) ∨
  ∃ a b r0 t0 m0 r1 t1 m1, Th 0 1 k a r0 t0 m0 ∧ Th 1 0 j b r1 t1 m1 ∧ Cs W0 w k j p i N (mC r0 t0 r1 t1) (m0 : Nat) (m1 : Nat) ∧ ¬ (t0 = 5 ∧ t1 = 5) ∧ (t0 = 1 → i ≤ 2 * a + 2) ∧ (t0 = 5 → i ≤ 4 * k + 9 + b)
theorem Rd.lt (h : Rd W0 w k j p N a) (hk : k < 700) (hj : j < 50) : a < 5000 := by
  rcases h with ⟨rfl, _⟩ | ⟨a', b', r0, t0, m0, r1, t1, m1, h0, h1, _, _, h3, h4⟩
  · omega
  · have e0 := h0.st
    have e1 := h1.st
    rcases e0 with ⟨e0, e2⟩ | ⟨e0, e2, _⟩
    · have := h3 e0; omega
    · have := h4 e0
      rcases e1 with ⟨_, e3⟩ | ⟨_, e3, _⟩ <;> omega
end Md
end Go.Proofs.YtdhkakjiahkjnaaDoor
/- ModelCounts: the function that makes a loop. -/
namespace Go.Proofs.YtdhkakjiahkjnaaDoor
open Go.RowKit Go.Lib Fx Ho Gr
set_option linter.unusedVariables false
namespace Md
open Cd (Ins zi ca c4 okI hasB bnd kd okAt ca_len)
variable {w W0 w' : World} {k j p K N n m : Nat} {m0 m1 t t0 t1 : Int} {r r0 r1 : Gor}
theorem band : ∀ j : Nat, j < 1000 → bits .and .i64 (j : Int) 255 = ((j % 256 : Nat) : Int) := by decide +kernel
theorem bdiv (j : Nat) : (j : Int) / 256 = ((j / 256 : Nat) : Int) := by omega
theorem Th.le {f s c : Nat} (h : Th f s c n r t m) : m ≤ c + 1 := by
  cases h with
  | init => omega
  | top r h => omega
  | mid r h => omega
  | out => omega
  | done => omega
theorem cs_spawn (h : Cs W0 w k j p K N (mo0 0) m0 m1) (hP : Pg 0 (fsC k j)) (hK : K < 90000) : Calls Tryd.prog 6 #[.pointer (some ⟨p, 0, none⟩), .int .i64 0] w fun e w' => e = .returned (.tuple #[.agg #[.int .i64 0, .int .i64 0, .int .i64 0, .int .i64 8, .int .i64 1, .bool false], .int .i64 0]) ∧ Cs W0 w' k j p (K + 1) N (mC ⟨0, 1, 0, zC⟩ 1 ⟨1, 0, 0, zC⟩ 1) m0 m1 := by
  have := cs_do (g := 0) h hP hK (.inl rfl) (by show 0 < 1; omega) rfl
  rw [spC.1, spC.2] at this
  exact this
theorem cs_do0 (h : Cs W0 w k j p K N (mC r t r1 t1) m0 m1) (hP : Pg 0 (fsC k j)) (hK : K < 90000) (hr : Th 0 1 k n r t m) (ht : t = 1) : Calls Tryd.prog 6 #[.pointer (some ⟨p, 0, none⟩), .int .i64 0] w fun e w' => ∃ r' t' m' pc op, Th 0 1 k (n + 1) r' t' m' ∧ Tells op m m' t' ∧ e = .returned (.tuple #[.agg #[.int .i64 0, .int .i64 0, .int .i64 pc, .int .i64 op, .int .i64 0, .bool false], .int .i64 0]) ∧ Cs W0 w' k j p (K + 1) N (mC r' t' r1 t1) m0 m1 := by
  obtain ⟨r', t', m', pc, op, e1, e2, e3, e4⟩ := st0 (j := j) (r1 := r1) (t1 := t1) hr ht
  have := cs_do (g := 0) h hP hK (.inr rfl) (by show 0 < 2; omega) ht
  rw [e2, e3] at this
  exact this.mono fun e w' ⟨a1, a2⟩ => ⟨r', t', m', pc, op, e1, e4, a1, a2⟩
theorem cs_do1 (h : Cs W0 w k j p K N (mC r0 t0 r t) m0 m1) (hP : Pg 0 (fsC k j)) (hK : K < 90000) (hr : Th 1 0 j n r t m) (ht : t = 1) : Calls Tryd.prog 6 #[.pointer (some ⟨p, 0, none⟩), .int .i64 1] w fun e w' => ∃ r' t' m' pc op, Th 1 0 j (n + 1) r' t' m' ∧ Tells op m m' t' ∧ e = .returned (.tuple #[.agg #[.int .i64 1, .int .i64 1, .int .i64 pc, .int .i64 op, .int .i64 0, .bool false], .int .i64 0]) ∧ Cs W0 w' k j p (K + 1) N (mC r0 t0 r' t') m0 m1 := by
  obtain ⟨r', t', m', pc, op, e1, e2, e3, e4⟩ := st1 (k := k) (r0 := r0) (t0 := t0) hr ht
  have := cs_do (g := 1) h hP hK (.inr rfl) (by show 1 < 2; omega) ht
  rw [e2, e3] at this
  exact this.mono fun e w' ⟨a1, a2⟩ => ⟨r', t', m', pc, op, e1, e4, a1, a2⟩
theorem made_two (W : World) : (Instr.makeSlice 23 (.int .i64 2) (.int .i64 2)).run Tryd.prog W = .ok (.slice (some ⟨W.heap.size, 0, none⟩) 2 2) (W.alloc (.cells #[.int .i64 0, .int .i64 0] 3)) := by
  have := run_make_row' (P := Tryd.prog) 23 3 (.int .i64 0) 8 Tryd.underlying23 (by kernel_rfl) rfl .i64 .i64 2 (by omega) (by omega) W
  rw [made_ints] at this
  exact this
end Md
end Go.Proofs.YtdhkakjiahkjnaaDoor
