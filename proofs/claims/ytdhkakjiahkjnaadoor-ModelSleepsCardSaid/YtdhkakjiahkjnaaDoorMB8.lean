import Derived.Test.YtdhkakjiahkjnaaDoorMB7
/- ModelGlobals: its program, step by step. -/
namespace Go.Proofs.YtdhkakjiahkjnaaDoor
open Go.RowKit Go.Lib Fx Ho Gr
set_option linter.unusedVariables false
namespace Md
open Cd (Ins zi ca c4 okI hasB bnd kd okAt ca_len ca_get)
variable {L : List Ins} {v : Value} {γ : Nat → Nat} {k m q i r p K N : Nat} {W0 w w' : World} {M M' : Mo} {gl : List Int} {x : Int}
def pG (γ : Nat → Nat) (i : Nat) : List Ins := [(1, 1, 0, 0), (7, (γ i : Nat), 1, 0)]
def lG (γ : Nat → Nat) : Nat → List Ins
  | 0 => []
  | i + 1 => lG γ i ++ pG γ i
theorem lG_len : ∀ i, (lG γ i).length = 2 * i
  | 0 => rfl
  | i + 1 => by unfold lG; rw [List.length_append, lG_len i]; show 2 * i + 2 = _; omega
theorem lG_get (hr : r < 2) : ∀ m, i < m → (lG γ m).getD (2 * i + r) zi = (pG γ i).getD r zi
  | 0, h => by omega
  | m + 1, h => by
    unfold lG
    by_cases e : i < m
    · rw [getD_app1 _ (by rw [lG_len]; omega)]
      exact lG_get hr m e
    · obtain rfl : i = m := by omega
      rw [List.getD_eq_getElem?_getD, List.getElem?_append_right (by rw [lG_len]; omega), lG_len, show 2 * i + r - 2 * i = r by omega, ← List.getD_eq_getElem?_getD]
theorem lG_mem : ∀ m x, x ∈ lG γ m → ∃ i, x ∈ pG γ i
  | 0, x, h => by cases h
  | m + 1, x, h => (List.mem_append.1 h).elim (lG_mem m x) (fun e => ⟨m, e⟩)
def lX : List Ins := [(0, 0, 0, 0)]
def fsG (γ : Nat → Nat) (m : Nat) : List (List Ins) := [lG γ m ++ lX]
theorem lGX_len : (lG γ m ++ lX).length = 2 * m + 1 := by rw [List.length_append, lG_len]; rfl
theorem pgG (h1 : 1 ≤ k) (h8 : k ≤ 8) (hm : m ≤ 30) (hγ : ∀ i, γ i < k) : Pg k (fsG γ m) := by
  refine pg_one (by omega) (by rw [lGX_len]; omega) (by rw [lGX_len]; omega) (fun x hx => ?_)
  rw [lGX_len]
  rcases List.mem_append.1 hx with e | e
  · obtain ⟨i, hi⟩ := lG_mem m x e
    have := hγ i
    simp only [pG, List.mem_cons, List.not_mem_nil, or_false] at hi
    rcases hi with rfl | rfl <;> simp [okI, hasB, bnd, kd, Cd.kinds] <;> omega
  · simp only [lX, List.mem_cons, List.not_mem_nil, or_false] at e
    rw [e]; simp [okI, hasB, bnd, kd, Cd.kinds]
def glG (k : Nat) (γ : Nat → Nat) : Nat → List Int
  | 0 => List.replicate k 0
  | q + 1 => (glG k γ q).set (γ q) ((q : Int) + 1)
theorem glG_len : ∀ q, (glG k γ q).length = k
  | 0 => List.length_replicate
  | q + 1 => by unfold glG; rw [List.length_set, glG_len q]
theorem glG_le : ∀ q, ∀ z ∈ glG k γ q, 0 ≤ z ∧ z ≤ (q : Int)
  | 0, z, h => by rw [List.eq_of_mem_replicate h]; exact ⟨Int.le_refl _, Int.le_refl _⟩
  | q + 1, z, h => by
    unfold glG at h
    rcases List.mem_or_eq_of_mem_set h with e | e
    · have := glG_le q z e; omega
    · omega
theorem pairs_set {R : Int → Int → Prop} {x : Int} : ∀ (L : List Int) (i : Nat), L.Pairwise R → (∀ y ∈ L, R x y ∧ R y x) → (L.set i x).Pairwise R
  | [], i, h, _ => by cases i <;> exact h
  | y :: L, 0, h, hx => by
    rw [List.set_cons_zero]
    exact List.pairwise_cons.2 ⟨fun z hz => (hx z (List.mem_cons_of_mem _ hz)).1, (List.pairwise_cons.1 h).2⟩
  | y :: L, i + 1, h, hx => by
    rw [List.set_cons_succ]
    refine List.pairwise_cons.2 ⟨fun z hz => ?_, pairs_set L i (List.pairwise_cons.1 h).2 (fun z hz => hx z (List.mem_cons_of_mem _ hz))⟩
    rcases List.mem_or_eq_of_mem_set hz with e | e
    · exact (List.pairwise_cons.1 h).1 z e
    · rw [e]; exact (hx y List.mem_cons_self).2
theorem glG_pairs : ∀ q, (glG k γ q).Pairwise (fun a b => a ≠ 0 → b ≠ 0 → a ≠ b)
  | 0 => List.pairwise_replicate.2 (.inr (fun h _ => absurd rfl h))
  | q + 1 => by
    unfold glG
    refine pairs_set _ _ (glG_pairs q) (fun y hy => ?_)
    have := glG_le q y hy
    exact ⟨fun _ _ => by omega, fun _ _ => by omega⟩
/-- How many are not 0. -/
def nz (L : List Int) : Nat := (L.filter (fun z => decide (z ≠ 0))).length
theorem nz_next (L : List Int) (j : Nat) (hj : j < L.length) : nz (L.take (j + 1)) = nz (L.take j) + (if L.getD j 0 = 0 then 0 else 1) := by
  unfold nz
  rw [List.take_add_one, List.getElem?_eq_getElem hj, List.filter_append, List.length_append]
  have e : L.getD j 0 = L[j] := by rw [List.getD_eq_getElem?_getD, List.getElem?_eq_getElem hj]; rfl
  rw [e]
  by_cases h : L[j] = 0
  · rw [if_pos h]; simp [h]
  · rw [if_neg h]; simp [h]
theorem nz_le (L : List Int) : nz L ≤ L.length := List.length_filter_le _ _
def obG (q : Nat) : List (List Int) := List.replicate q [0]
def mG (pc : Nat) (b : Int) (ob : List (List Int)) (gl : List Int) (s : Int) : Mo := ⟨[⟨0, pc, 0, 0 :: b :: List.replicate 14 0⟩], [s], gl, ob, 0, [], 0, fun _ => []⟩
def aG (k : Nat) (γ : Nat → Nat) (q : Nat) : Mo := mG (2 * q) q (obG q) (glG k γ q) 1
def bG (k : Nat) (γ : Nat → Nat) (q : Nat) : Mo := mG (2 * q + 1) ((q : Int) + 1) (obG (q + 1)) (glG k γ q) 1
def eG (k : Nat) (γ : Nat → Nat) (q : Nat) : Mo := mG (2 * q + 1) q (obG q) (glG k γ q) 5
theorem aG0 : mo0 k = aG k γ 0 := rfl
theorem insG {pc : Nat} {b s : Int} {ob : List (List Int)} {x : Ins} (h : pc < 2 * m + 1) (hx : (lG γ m ++ lX).getD pc zi = x) : insAt (fsG γ m) (mG pc b ob gl s) 0 = x := by
  show (if pc < (lG γ m ++ lX).length then (lG γ m ++ lX).getD pc zi else zi) = x
  rw [if_pos (by rw [lGX_len]; exact h), hx]
theorem insG2 {b s : Int} {ob : List (List Int)} (h : q < m) (hr : r < 2) : insAt (fsG γ m) (mG (2 * q + r) b ob gl s) 0 = (pG γ q).getD r zi := insG (by omega) (by rw [getD_app1 _ (by rw [lG_len]; omega), lG_get hr m h])
theorem stA (h : q < m) : step (fsG γ m) (aG k γ q) 0 = bG k γ q ∧ comM (fsG γ m) (aG k γ q) 0 = comV 0 0 (2 * q : Nat) 1 ((q : Int) + 1) false := by
  have hi := insG2 (γ := γ) (b := q) (s := 1) (ob := obG q) (gl := glG k γ q) h (show 0 < 2 by omega)
  rw [Nat.add_zero] at hi
  have ho : outI (fsG γ m) (aG k γ q) 0 = (mG (2 * q + 1) ((obG q).length + 1) (obG q ++ [[0]]) (glG k γ q) 2, ((obG q).length : Int) + 1, 1, false) := by
    unfold outI aG; rw [hi]; rfl
  have e1 : (obG q).length = q := List.length_replicate
  have e2 : obG q ++ [[0]] = obG (q + 1) := List.replicate_succ'.symm
  rw [e1, e2] at ho
  refine ⟨by unfold step; rw [ho]; rfl, by unfold comM; rw [ho]; unfold aG; rw [hi]; rfl⟩
theorem stB (h : q < m) : step (fsG γ m) (bG k γ q) 0 = aG k γ (q + 1) ∧ comM (fsG γ m) (bG k γ q) 0 = comV 0 0 (2 * q + 1 : Nat) 7 0 false := by
  have hi := insG2 (γ := γ) (b := (q : Int) + 1) (s := 1) (ob := obG (q + 1)) (gl := glG k γ q) h (show 1 < 2 by omega)
  have ho : outI (fsG γ m) (bG k γ q) 0 = (mG (2 * q + 1 + 1) ((q : Int) + 1) (obG (q + 1)) ((glG k γ q).set (γ q) ((q : Int) + 1)) 2, 0, 1, false) := by
    unfold outI bG; rw [hi]; rfl
  refine ⟨by unfold step; rw [ho]; rfl, by unfold comM; rw [ho]; unfold bG; rw [hi]; rfl⟩
theorem stE : step (fsG γ m) (aG k γ m) 0 = eG k γ m ∧ comM (fsG γ m) (aG k γ m) 0 = comV 0 0 (2 * m : Nat) 0 0 false := by
  have hi := insG (γ := γ) (m := m) (pc := 2 * m) (b := m) (s := 1) (ob := obG m) (gl := glG k γ m) (x := (0, 0, 0, 0)) (by omega) (by
    rw [List.getD_eq_getElem?_getD, List.getElem?_append_right (by rw [lG_len]; omega), lG_len, Nat.sub_self]; rfl)
  have ho : outI (fsG γ m) (aG k γ m) 0 = (mG (2 * m + 1) m (obG m) (glG k γ m) 2, 0, 5, false) := by
    unfold outI aG; rw [hi]; rfl
  refine ⟨by unfold step; rw [ho]; rfl, by unfold comM; rw [ho]; unfold aG; rw [hi]; rfl⟩
theorem rcG {j : Nat} : Rc (eG k γ m) j ↔ ((j : Int) ∈ glG k γ m ∧ j ≠ 0) := by
  constructor
  · intro h
    induction h with
    | gl hz h0 =>
      have hz : _ ∈ glG k γ m := hz
      have := glG_le m _ hz
      rw [show ((_ : Int).toNat : Int) = _ from Int.toNat_of_nonneg this.1]
      exact ⟨hz, by omega⟩
    | @sk g z hg h5 hz h0 =>
      obtain rfl : g = 0 := by have hg : g < 1 := hg; omega
      exact absurd rfl h5
    | @ob i z hi hz h0 ih =>
      have hz : z ∈ (List.replicate m ([0] : List Int)).getD (i - 1) [] := hz
      rw [List.getD_eq_getElem?_getD, List.getElem?_replicate] at hz
      split at hz
      · exact absurd (List.mem_singleton.1 hz) h0
      · cases hz
  · rintro ⟨h1, h2⟩
    have : Rc (eG k γ m) ((j : Int)).toNat := Rc.gl h1 (by omega)
    simpa using this
theorem reachG {zs : List Int} (h : IsReach (eG k γ m) zs) : zs.length = nz (glG k γ m) := by
  refine len_of_mem h.nodup ?_ (fun x => ?_)
  · show List.Pairwise _ _
    rw [List.pairwise_filter]
    refine (glG_pairs m).imp (fun h a b => h (by simpa using a) (by simpa using b))
  · rw [h.mem, List.mem_filter]
    constructor
    · rintro ⟨j, rfl, hj⟩
      have := rcG.1 hj
      exact ⟨this.1, by simpa using this.2⟩
    · rintro ⟨h1, h2⟩
      have h3 := glG_le m x h1
      have h4 : x ≠ 0 := by simpa using h2
      exact ⟨x.toNat, (Int.toNat_of_nonneg h3.1).symm, rcG.2 ⟨by rw [Int.toNat_of_nonneg h3.1]; exact h1, by omega⟩⟩
/-- The model and what the law wants. -/
structure Gs (W0 w : World) (k : Nat) (γ : Nat → Nat) (m p K N : Nat) (M : Mo) (gl : List Int) : Prop where
  ms : Ms W0 w k (fsG γ m) p M K (fun k => k ∈ [N])
  wt : w.heap[N]? = some (.cells (cells gl).toArray 3 (0, 0))
theorem Gs.var (h : Gs W0 w k γ m p K N M gl) (A : Array Value) (t : TypeId) : Gs W0 (w.alloc (.cells A t)) k γ m p K N M gl ∧ (w.alloc (.cells A t)).heap[w.heap.size]? = some (.cells A t (0, 0)) := by
  obtain ⟨h1, h2, h3⟩ := h.ms.var A t
  exact ⟨⟨h1.sub (fun k hk => List.mem_cons_of_mem _ hk), (h3.block (List.mem_cons_self)).trans h.wt⟩, h2⟩
theorem Gs.turn {K' : Nat} (h : Gs W0 w k γ m p K N M gl) (h1 : Ms W0 w' k (fsG γ m) p M' K' (fun k => k ∈ [N])) (h2 : Kept (fun k => k ∈ [N]) w w') : Gs W0 w' k γ m p K' N M' gl := ⟨h1, (h2.block (List.mem_cons_self)).trans h.wt⟩
theorem Gs.set (h : Gs W0 w k γ m p K N M gl) (j : Nat) (x : Int) : Gs W0 (w.setCell ⟨N, j, none⟩ (.int .i64 x)) k γ m p K N M (gl.set j x) := by
  refine ⟨h.ms.wrote (wrote_setCell (a := ⟨N, j, none⟩) (H := fun k => k = N) rfl rfl rfl rfl rfl) (fun k hk => by rw [hk]; exact List.mem_cons_self), ?_⟩
  rw [heap_setCell_same w N j _ _ (.int .i64 x) h.wt, ← cells_set]
  simp
theorem Gs.below (h : Gs W0 w k γ m p K N M gl) (hb : Below w.heap.size w w') : Gs W0 w' k γ m p K N M gl := ⟨h.ms.below hb, (hb.block _ (block_lt h.wt)).trans h.wt⟩
theorem Gs.cell (h : Gs W0 w k γ m p K N M gl) {j : Nat} (hj : j < gl.length) : w.cell? ⟨N, j, none⟩ = some (.int .i64 (gl.getD j 0)) := cell_of h.wt (by rw [List.getElem?_toArray]; unfold cells; rw [List.getElem?_map, List.getElem?_eq_getElem hj, List.getD_eq_getElem?_getD, List.getElem?_eq_getElem hj]; rfl)
theorem gs_do (h : Gs W0 w k γ m p K N M gl) (hP : Pg k (fsG γ m)) (hK : K < 90000) (hG : M.gs.length = 1) (h1 : M.st.getD 0 0 = 1) {pc : Nat} {op v : Int} (hc : comM (fsG γ m) M 0 = comV 0 0 pc op v false) : Calls Tryd.prog 6 #[.pointer (some ⟨p, 0, none⟩), .int .i64 0] w fun e w' => ∃ pc : Int, e = .returned (.tuple #[.agg #[.int .i64 0, .int .i64 0, .int .i64 pc, .int .i64 op, .int .i64 v, .bool false], .int .i64 0]) ∧ Gs W0 w' k γ m p (K + 1) N (step (fsG γ m) M 0) gl := by
  have := ms_step (g := 0) h.ms hP hK (by omega) (by omega) h1
  rw [hc] at this
  exact this.mono fun e w' ⟨he, a1, a2⟩ => ⟨_, he, h.turn a1 a2⟩
/-- As a round begins. -/
inductive Rg (W0 w : World) (k : Nat) (γ : Nat → Nat) (m p N : Nat) : Nat → Int → Prop
  | a (i q : Nat) : i = 2 * q → q ≤ m → Gs W0 w k γ m p i N (aG k γ q) (glG k γ q) → Rg W0 w k γ m p N i q
  | b (i q : Nat) (x : Int) : i = 2 * q + 1 → q < m → x = (q : Int) + 1 → Gs W0 w k γ m p i N (bG k γ q) (glG k γ q) → Rg W0 w k γ m p N i x
  | e (i : Nat) (x : Int) : i = 2 * m + 1 → Gs W0 w k γ m p i N (eG k γ m) (glG k γ m) → Rg W0 w k γ m p N i x
theorem Rg.or {U : World} (h : Rg U w k γ m p N i x) : (∃ q, i = 2 * q ∧ q ≤ m ∧ x = (q : Int) ∧ Gs U w k γ m p i N (aG k γ q) (glG k γ q)) ∨ (∃ q, i = 2 * q + 1 ∧ q < m ∧ x = (q : Int) + 1 ∧ Gs U w k γ m p i N (bG k γ q) (glG k γ q)) ∨ (i = 2 * m + 1 ∧ Gs U w k γ m p i N (eG k γ m) (glG k γ m)) := by
  cases h with
  | a q h1 h2 h3 => exact .inl ⟨q, h1, h2, rfl, h3⟩
  | b q _ h1 h2 h3 h4 => exact .inr (.inl ⟨q, h1, h2, h3, h4⟩)
  | e _ h1 h2 => exact .inr (.inr ⟨h1, h2⟩)
theorem ReachR.count {en : Ending} (h : ReachR w (eG k γ m) en w') : ∃ sp cap, en = .returned (.slice sp (nz (glG k γ m)) cap) ∧ Below w.heap.size w w' := by
  obtain ⟨v, zs, e, hb, ⟨sp, cap, rfl, _⟩, hr⟩ := h
  rw [reachG hr] at e
  exact ⟨sp, cap, e, hb⟩
theorem made_k (hk : k ≤ 1000) (W : World) : (Instr.makeSlice 23 (.int .i64 (k : Int)) (.int .i64 (k : Int))).run Tryd.prog W = .ok (.slice (some ⟨W.heap.size, 0, none⟩) k k) (W.alloc (.cells (cells (glG k γ 0)).toArray 3)) := by
  have := run_make_row' (P := Tryd.prog) 23 3 (.int .i64 0) 8 Tryd.underlying23 (by kernel_rfl) rfl .i64 .i64 k (by omega) (by omega) W
  rw [made_ints] at this
  exact this
theorem Pw.cut (h : Pw w w' v L) {sp : Option Addr} {cap n j : Nat} (hv : v = .slice sp n cap) (hn : L.length = n) (hj : j ≤ n) : Pw w w' (.slice sp j cap) (L.take j) := by
  subst hv
  have h1 := h.row
  rw [hn] at h1
  have h2 := h1.take hj
  have e : (L.take j).length = j := by rw [List.length_take]; omega
  have e2 : (ca L).take (j * 4) = ca (L.take j) := by
    have : ca L = ca (L.take j) ++ ca (L.drop j) := by rw [← ca_app, List.take_append_drop]
    rw [this, List.take_left' (by rw [ca_len, e])]
  rw [e2] at h2
  exact ⟨by rw [e]; exact h2, fun k hk => h.low k (by cases sp with | none => cases hk | some a => exact hk), h.bel⟩
end Md
end Go.Proofs.YtdhkakjiahkjnaaDoor
