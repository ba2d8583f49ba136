import Derived.Test.YtdhkakjiahkjnaaDoorMA2
import Derived.Test.YtdhkakjiahkjnaaDoorMA3
import Derived.Test.YtdhkakjiahkjnaaDoorMA4
import Derived.Deep.RegionHeld3
import Derived.Deep.RegionWith
import Derived.StillTailTactics
import Derived.RegionTactic
import Derived.LoopTactic
import Derived.Deep.Cut
import Derived.Deep.CutBlock
import Derived.Deep.CutRange
import Derived.Deep.DeepCutAuto
import Derived.Deep.RegionLaw
/- The model without a collector: what it is by lists, and where it lies. -/
namespace Go.Proofs.YtdhkakjiahkjnaaDoor
open Go.RowKit Go.Lib Fx Ho Gr
set_option linter.unusedVariables false
namespace Md
open Cd (Ins zi ca c4)
/-- Where a goroutine stands. -/
structure Gor where
  f : Nat
  pc : Nat
  ct : Nat
  sk : List Int
def g0 : Gor := ⟨0, 0, 0, []⟩
/-- A model: goroutines, their states, globals, objects, the clock, sleepers, how many ever slept, who waits. -/
structure Mo where
  gs : List Gor
  st : List Int
  gl : List Int
  ob : List (List Int)
  ck : Int
  tm : List Sl
  tn : Nat
  wz : Nat → List Int
/-- Where it lies. -/
structure Pl where
  fv : Value
  dv : Value
  gv : Value
  sv : Value
  tv : Value
  glv : Value
  obv : Value
  ps : Nat
  pt : Nat
  pw : Nat
  V : Nat → Value
  bs : List Nat
  hs : List Value
  os : List Value
  Mt : List Sl
/-- The blocks of each of its eight parts. -/
def hm (p : Nat) (q : Pl) (i : Nat) : Home := fun k => match i with
  | 0 => k = p
  | 1 => St.home q.ps q.sv k
  | 2 => Pt.home2 q.pt q.tv k
  | 3 => Wt.home q.pw q.V k
  | 4 => q.gv.ownBlock = some k ∨ k ∈ q.bs
  | 5 => q.obv.ownBlock = some k ∨ ∃ j, j < q.os.length ∧ (q.os.getD j .nilFunc).ownBlock = some k
  | 6 => q.glv.ownBlock = some k
  | _ => q.fv.ownBlock = some k ∨ q.dv.ownBlock = some k ∨ ∃ j, j < q.hs.length ∧ (q.hs.getD j .nilFunc).ownBlock = some k
/-- The parts lie apart, between lo and n. -/
structure Ap (h : Nat → Home) (lo n : Nat) : Prop where
  off : ∀ i j k, i < 8 → j < 8 → h i k → h j k → i = j
  low : ∀ i k, i < 8 → h i k → lo ≤ k ∧ k < n
variable {h h' : Nat → Home} {lo n n' : Nat}
/-- Some parts (those of I) have new homes, of their old blocks and new ones, apart from one another. -/
theorem Ap.turn (H : Ap h lo n) (I : Nat → Prop) (hn : n ≤ n') (hl : lo ≤ n) (same : ∀ j k, j < 8 → ¬ I j → h' j k → h j k) (new : ∀ i k, i < 8 → I i → h' i k → (h i k ∨ n ≤ k) ∧ k < n') (two : ∀ i j k, i < 8 → j < 8 → I i → I j → h' i k → h' j k → n ≤ k → i = j) : Ap h' lo n' := by
  refine ⟨fun i j k hi hj h1 h2 => ?_, fun i k hi h1 => ?_⟩
  · by_cases ii : I i <;> by_cases ij : I j
    · obtain ⟨a, _⟩ := new i k hi ii h1
      obtain ⟨b, _⟩ := new j k hj ij h2
      by_cases e : n ≤ k
      · exact two i j k hi hj ii ij h1 h2 e
      · exact H.off i j k hi hj (a.resolve_right e) (b.resolve_right e)
    · obtain ⟨a, _⟩ := new i k hi ii h1
      have b := same j k hj ij h2
      have := (H.low j k hj b).2
      exact H.off i j k hi hj (a.resolve_right (by omega)) b
    · have a := same i k hi ii h1
      obtain ⟨b, _⟩ := new j k hj ij h2
      have := (H.low i k hi a).2
      exact H.off i j k hi hj a (b.resolve_right (by omega))
    · exact H.off i j k hi hj (same i k hi ii h1) (same j k hj ij h2)
  · by_cases ii : I i
    · obtain ⟨a, b⟩ := new i k hi ii h1
      exact ⟨a.elim (fun a => (H.low i k hi a).1) (fun a => Nat.le_trans hl a), b⟩
    · have := H.low i k hi (same i k hi ii h1)
      exact ⟨this.1, by omega⟩
theorem Ap.more (H : Ap h lo n) (hn : n ≤ n') : Ap h lo n' := ⟨H.off, fun i k hi h1 => ⟨(H.low i k hi h1).1, Nat.lt_of_lt_of_le (H.low i k hi h1).2 hn⟩⟩
/-- A goroutine's cells. -/
def gcl (r : Gor) : List Value := .int .i64 r.f :: .int .i64 r.pc :: .int .i64 r.ct :: cells r.sk
def ptr (b : Nat) : Value := .pointer (some ⟨b, 0, none⟩)
/-- A method bound to the model. -/
def bound (F : FuncId) (p : Nat) : Value := .func (.func F) #[ptr p] #[]
/-- What is done, by Op. -/
def doCells (p : Nat) : Array Value := #[bound 40 p, bound 41 p, bound 42 p, bound 43 p, bound 44 p, bound 45 p, bound 46 p, bound 47 p, bound 48 p, bound 49 p, bound 50 p, bound 51 p, bound 52 p, bound 53 p, bound 54 p, bound 55 p, bound 56 p, bound 57 p]
variable {B w w' : World} {fs : List (List Ins)} {p : Nat} {q : Pl} {M : Mo} {H H' : Home}
def P0 (w : World) (p : Nat) (q : Pl) (M : Mo) : Prop := w.heap[p]? = some (.cells #[q.fv, q.dv, q.gv, ptr q.ps, ptr q.pt, ptr q.pw, .int .i64 M.ck, q.glv, q.obv] 53 (0, 0))
def P2 (w : World) (q : Pl) (M : Mo) : Prop := Pt.Ti w q.pt q.tv q.Mt M.tn ∧ q.Mt.Perm M.tm
/-- The goroutines. -/
structure P4 (w : World) (gv : Value) (bs : List Nat) (gs : List Gor) : Prop where
  len : bs.length = gs.length
  row : GRow 1 w gv gs.length (bs.map ptr)
  cel : ∀ i, i < gs.length → w.heap[bs.getD i 0]? = some (.cells (gcl (gs.getD i g0)).toArray 56 (0, 0))
  nd : bs.Nodup
  off : ∀ k, gv.ownBlock = some k → k ∉ bs
/-- The objects. -/
structure P5 (w : World) (obv : Value) (os : List Value) (ob : List (List Int)) : Prop where
  len : os.length = ob.length
  row : GRow 1 w obv ob.length os
  cel : ∀ i, i < ob.length → GRow 1 w (os.getD i .nilFunc) (ob.getD i []).length (cells (ob.getD i []))
  nd : ∀ i j k, i < ob.length → j < ob.length → (os.getD i .nilFunc).ownBlock = some k → (os.getD j .nilFunc).ownBlock = some k → i = j
  off : ∀ i k, i < ob.length → (os.getD i .nilFunc).ownBlock = some k → obv.ownBlock ≠ some k
def P6 (w : World) (q : Pl) (M : Mo) : Prop := GRow 1 w q.glv M.gl.length (cells M.gl)
/-- The program, and what is done by Op. -/
structure P7 (w : World) (p : Nat) (fv dv : Value) (hs : List Value) (fs : List (List Ins)) : Prop where
  len : hs.length = fs.length
  row : GRow 1 w fv fs.length hs
  ins : ∀ i, i < fs.length → GRow 4 w (hs.getD i .nilFunc) (fs.getD i []).length (ca (fs.getD i []))
  does : ∃ db, dv = .slice (some ⟨db, 0, none⟩) 18 18 ∧ w.heap[db]? = some (.cells (doCells p) 61 (0, 0))
/-- The model lies there. -/
structure IsM (B w : World) (fs : List (List Ins)) (p : Nat) (q : Pl) (M : Mo) : Prop where
  p0 : P0 w p q M
  p1 : St.IsSt w q.ps q.sv M.st
  p2 : P2 w q M
  p3 : Wt.IsW w q.pw q.V M.wz
  p4 : P4 w q.gv q.bs M.gs
  p5 : P5 w q.obv q.os M.ob
  p6 : P6 w q M
  p7 : P7 w p q.fv q.dv q.hs fs
  ap : Ap (hm p q) B.heap.size w.heap.size
  bel : Below B.heap.size B w
theorem P0.wrote (h : P0 w p q M) (hw : Wrote H w H' w') (ho : ∀ k, hm p q 0 k → ¬ H k) : P0 w' p q M := (hw.block p (block_lt h) (ho p rfl)).trans h
theorem P2.wrote (h : P2 w q M) (hw : Wrote H w H' w') (ho : ∀ k, hm p q 2 k → ¬ H k) : P2 w' q M := ⟨h.1.wrote hw ho, h.2⟩
theorem bs_in {bs : List Nat} {gs : List Gor} {i : Nat} (hl : bs.length = gs.length) (hi : i < gs.length) : bs.getD i 0 ∈ bs := by
  rw [List.getD_eq_getElem?_getD, List.getElem?_eq_getElem (by omega)]; exact List.getElem_mem _
theorem bs_inj {bs : List Nat} {i j : Nat} (hn : bs.Nodup) (hi : i < bs.length) (hj : j < bs.length) (e : bs.getD i 0 = bs.getD j 0) : i = j := by
  rw [List.getD_eq_getElem?_getD, List.getD_eq_getElem?_getD, List.getElem?_eq_getElem hi, List.getElem?_eq_getElem hj] at e
  have h := List.pairwise_iff_getElem.1 hn
  rcases Nat.lt_trichotomy i j with g | g | g
  · exact absurd e (h i j hi hj g)
  · exact g
  · exact absurd e.symm (h j i hj hi g)
theorem P4.wrote {gv : Value} {bs : List Nat} {gs : List Gor} (h : P4 w gv bs gs) (hw : Wrote H w H' w') (ho : ∀ k, (gv.ownBlock = some k ∨ k ∈ bs) → ¬ H k) : P4 w' gv bs gs :=
  ⟨h.len, h.row.wrote hw (fun k hk => ho k (.inl hk)), fun i hi => (hw.block _ (block_lt (h.cel i hi)) (ho _ (.inr (bs_in h.len hi)))).trans (h.cel i hi), h.nd, h.off⟩
theorem P5.wrote {obv : Value} {os : List Value} {ob : List (List Int)} (h : P5 w obv os ob) (hw : Wrote H w H' w') (ho : ∀ k, (obv.ownBlock = some k ∨ ∃ j, j < os.length ∧ (os.getD j .nilFunc).ownBlock = some k) → ¬ H k) : P5 w' obv os ob :=
  ⟨h.len, h.row.wrote hw (fun k hk => ho k (.inl hk)), fun i hi => (h.cel i hi).wrote hw (fun k hk => ho k (.inr ⟨i, by rw [h.len]; exact hi, hk⟩)), h.nd, h.off⟩
theorem P6.wrote (h : P6 w q M) (hw : Wrote H w H' w') (ho : ∀ k, hm p q 6 k → ¬ H k) : P6 w' q M := GRow.wrote h hw ho
theorem P7.wrote {fv dv : Value} {hs : List Value} (h : P7 w p fv dv hs fs) (hw : Wrote H w H' w') (ho : ∀ k, (fv.ownBlock = some k ∨ dv.ownBlock = some k ∨ ∃ j, j < hs.length ∧ (hs.getD j .nilFunc).ownBlock = some k) → ¬ H k) : P7 w' p fv dv hs fs := by
  obtain ⟨db, e, hd⟩ := h.does
  exact ⟨h.len, h.row.wrote hw (fun k hk => ho k (.inl hk)), fun i hi => (h.ins i hi).wrote hw (fun k hk => ho k (.inr (.inr ⟨i, by rw [h.len]; exact hi, hk⟩))), db, e, (hw.block db (block_lt hd) (ho db (.inr (.inl (by rw [e]; rfl))))).trans hd⟩
/-- What was written is of I's parts: the others stand. -/
theorem IsM.rest (h : IsM B w fs p q M) (I : Nat → Prop) (hH : ∀ k, H k → ∃ i, i < 8 ∧ I i ∧ hm p q i k) {j : Nat} (hj : j < 8) (hI : ¬ I j) : ∀ k, hm p q j k → ¬ H k := fun k hk hh => by
  obtain ⟨i, hi, ii, hk2⟩ := hH k hh
  have := h.ap.off i j k hi hj hk2 hk
  subst this
  exact hI ii
theorem IsM.belowW (h : IsM B w fs p q M) (hw : Wrote H w H' w') (hH : ∀ k, H k → ∃ i, i < 8 ∧ hm p q i k) : Below B.heap.size B w' := h.bel.trans (Cd.below_of_w hw (fun k hk => by obtain ⟨i, hi, hk2⟩ := hH k hk; exact (h.ap.low i k hi hk2).1) h.bel.size)
theorem IsM.below (h : IsM B w fs p q M) (hb : Below w.heap.size w w') : IsM B w' fs p q M := by
  have hw : Wrote (fun _ => False) w (fun _ => False) w' := Wrote.of_below hb
  have no : ∀ j k, hm p q j k → ¬ False := fun _ _ _ h => h
  exact ⟨h.p0.wrote hw (no 0), h.p1.below hb, h.p2.wrote hw (no 2), h.p3.below hb, h.p4.wrote hw (no 4), h.p5.wrote hw (no 5), h.p6.wrote hw (no 6), h.p7.wrote hw (no 7), h.ap.more hb.size, h.bel.trans (hb.mono h.bel.size)⟩
/-- Where a goroutine lies. -/
theorem IsM.gat (h : IsM B w fs p q M) {g : Nat} (hg : g < M.gs.length) : hm p q 4 (q.bs.getD g 0) := .inr (bs_in h.p4.len hg)
/-- A goroutine has turned. -/
theorem IsM.setG (h : IsM B w fs p q M) {g : Nat} (hg : g < M.gs.length) (r : Gor) (hw : Wrote (fun k => k = q.bs.getD g 0) w (fun k => k = q.bs.getD g 0) w') (hc : w'.heap[q.bs.getD g 0]? = some (.cells (gcl r).toArray 56 (0, 0))) : IsM B w' fs p q { M with gs := M.gs.set g r } := by
  have hH : ∀ k, k = q.bs.getD g 0 → ∃ i, i < 8 ∧ i = 4 ∧ hm p q i k := fun k e => ⟨4, by omega, rfl, e ▸ h.gat hg⟩
  have no := fun j hj hI => h.rest (H := fun k => k = q.bs.getD g 0) (fun i => i = 4) hH (j := j) hj hI
  refine ⟨h.p0.wrote hw (no 0 (by omega) (by omega)), h.p1.wrote hw (no 1 (by omega) (by omega)), h.p2.wrote hw (no 2 (by omega) (by omega)), h.p3.wrote hw (no 3 (by omega) (by omega)), ⟨?_, ?_, fun i hi => ?_, h.p4.nd, h.p4.off⟩, h.p5.wrote hw (no 5 (by omega) (by omega)), h.p6.wrote hw (no 6 (by omega) (by omega)), h.p7.wrote hw (no 7 (by omega) (by omega)), h.ap.more hw.size, h.belowW hw (fun k e => ⟨4, by omega, e ▸ h.gat hg⟩)⟩
  · show q.bs.length = (M.gs.set g r).length
    rw [List.length_set]; exact h.p4.len
  · show GRow 1 w' q.gv (M.gs.set g r).length _
    rw [List.length_set]
    exact h.p4.row.wrote hw (fun k hk e => h.p4.off k hk (e ▸ bs_in h.p4.len hg))
  · have hi : i < M.gs.length := by simpa using hi
    show w'.heap[q.bs.getD i 0]? = some (.cells (gcl ((M.gs.set g r).getD i g0)).toArray _ (0, 0))
    rw [List.getD_eq_getElem?_getD (l := M.gs.set g r)]
    by_cases e : i = g
    · subst e
      rw [List.getElem?_set_self hg]; exact hc
    · rw [List.getElem?_set_ne (fun e' => e e'.symm), ← List.getD_eq_getElem?_getD]
      have hl := h.p4.len
      exact (hw.block _ (block_lt (h.p4.cel i hi)) (fun e2 => e (bs_inj h.p4.nd (by omega) (by omega) e2))).trans (h.p4.cel i hi)
/-- The states have turned. -/
theorem IsM.setS (h : IsM B w fs p q M) {sv : Value} {L : List Int} (hw : Wrote (St.home q.ps q.sv) w (St.home q.ps sv) w') (hs : St.IsSt w' q.ps sv L) : IsM B w' fs p { q with sv := sv } { M with st := L } := by
  have hH : ∀ k, St.home q.ps q.sv k → ∃ i, i < 8 ∧ i = 1 ∧ hm p q i k := fun k e => ⟨1, by omega, rfl, e⟩
  have no := fun j hj hI => h.rest (H := St.home q.ps q.sv) (fun i => i = 1) hH (j := j) hj hI
  exact ⟨h.p0.wrote hw (no 0 (by omega) (by omega)), hs, h.p2.wrote hw (no 2 (by omega) (by omega)), h.p3.wrote hw (no 3 (by omega) (by omega)), h.p4.wrote hw (no 4 (by omega) (by omega)), h.p5.wrote hw (no 5 (by omega) (by omega)), h.p6.wrote hw (no 6 (by omega) (by omega)), h.p7.wrote hw (no 7 (by omega) (by omega)),
    h.ap.turn (fun i => i = 1) hw.size h.bel.size (fun j k hj hn hk => by
      rcases (show j = 0 ∨ j = 1 ∨ j = 2 ∨ j = 3 ∨ j = 4 ∨ j = 5 ∨ j = 6 ∨ j = 7 by omega) with rfl | rfl | rfl | rfl | rfl | rfl | rfl | rfl <;> first | exact hk | exact absurd rfl hn) (fun i k hi e hk => by subst e; exact ⟨hw.home k hk, hs.lt k hk⟩) (fun i j k hi hj e1 e2 _ _ _ => e1.trans e2.symm), h.belowW hw (fun k e => ⟨1, by omega, e⟩)⟩
/-- The sleepers have turned. -/
theorem IsM.setT (h : IsM B w fs p q M) {tv : Value} {Mt C : List Sl} {n : Nat} (hw : Wrote (Pt.home2 q.pt q.tv) w (Pt.home2 q.pt tv) w') (hs : Pt.Ti w' q.pt tv Mt n) (hp : Mt.Perm C) (hl : ∀ k, Pt.home2 q.pt tv k → k < w'.heap.size) : IsM B w' fs p { q with tv := tv, Mt := Mt } { M with tm := C, tn := n } := by
  have hH : ∀ k, Pt.home2 q.pt q.tv k → ∃ i, i < 8 ∧ i = 2 ∧ hm p q i k := fun k e => ⟨2, by omega, rfl, e⟩
  have no := fun j hj hI => h.rest (H := Pt.home2 q.pt q.tv) (fun i => i = 2) hH (j := j) hj hI
  exact ⟨h.p0.wrote hw (no 0 (by omega) (by omega)), h.p1.wrote hw (no 1 (by omega) (by omega)), ⟨hs, hp⟩, h.p3.wrote hw (no 3 (by omega) (by omega)), h.p4.wrote hw (no 4 (by omega) (by omega)), h.p5.wrote hw (no 5 (by omega) (by omega)), h.p6.wrote hw (no 6 (by omega) (by omega)), h.p7.wrote hw (no 7 (by omega) (by omega)),
    h.ap.turn (fun i => i = 2) hw.size h.bel.size (fun j k hj hn hk => by
      rcases (show j = 0 ∨ j = 1 ∨ j = 2 ∨ j = 3 ∨ j = 4 ∨ j = 5 ∨ j = 6 ∨ j = 7 by omega) with rfl | rfl | rfl | rfl | rfl | rfl | rfl | rfl <;> first | exact hk | exact absurd rfl hn) (fun i k hi e hk => by subst e; exact ⟨hw.home k hk, hl k hk⟩) (fun i j k hi hj e1 e2 _ _ _ => e1.trans e2.symm), h.belowW hw (fun k e => ⟨2, by omega, e⟩)⟩
/-- Who waits has turned. -/
theorem IsM.setW (h : IsM B w fs p q M) {V : Nat → Value} {Z : Nat → List Int} (hw : Wrote (Wt.home q.pw q.V) w (Wt.home q.pw V) w') (hs : Wt.IsW w' q.pw V Z) : IsM B w' fs p { q with V := V } { M with wz := Z } := by
  have hH : ∀ k, Wt.home q.pw q.V k → ∃ i, i < 8 ∧ i = 3 ∧ hm p q i k := fun k e => ⟨3, by omega, rfl, e⟩
  have no := fun j hj hI => h.rest (H := Wt.home q.pw q.V) (fun i => i = 3) hH (j := j) hj hI
  exact ⟨h.p0.wrote hw (no 0 (by omega) (by omega)), h.p1.wrote hw (no 1 (by omega) (by omega)), h.p2.wrote hw (no 2 (by omega) (by omega)), hs, h.p4.wrote hw (no 4 (by omega) (by omega)), h.p5.wrote hw (no 5 (by omega) (by omega)), h.p6.wrote hw (no 6 (by omega) (by omega)), h.p7.wrote hw (no 7 (by omega) (by omega)),
    h.ap.turn (fun i => i = 3) hw.size h.bel.size (fun j k hj hn hk => by
      rcases (show j = 0 ∨ j = 1 ∨ j = 2 ∨ j = 3 ∨ j = 4 ∨ j = 5 ∨ j = 6 ∨ j = 7 by omega) with rfl | rfl | rfl | rfl | rfl | rfl | rfl | rfl <;> first | exact hk | exact absurd rfl hn) (fun i k hi e hk => by subst e; exact ⟨hw.home k hk, hs.lt hk⟩) (fun i j k hi hj e1 e2 _ _ _ => e1.trans e2.symm), h.belowW hw (fun k e => ⟨3, by omega, e⟩)⟩
/-- The globals have turned. -/
theorem IsM.setL (h : IsM B w fs p q M) {L : List Int} (hw : Wrote (fun k => q.glv.ownBlock = some k) w (fun k => q.glv.ownBlock = some k) w') (hs : GRow 1 w' q.glv L.length (cells L)) : IsM B w' fs p q { M with gl := L } := by
  have hH : ∀ k, q.glv.ownBlock = some k → ∃ i, i < 8 ∧ i = 6 ∧ hm p q i k := fun k e => ⟨6, by omega, rfl, e⟩
  have no := fun j hj hI => h.rest (H := fun k => q.glv.ownBlock = some k) (fun i => i = 6) hH (j := j) hj hI
  exact ⟨h.p0.wrote hw (no 0 (by omega) (by omega)), h.p1.wrote hw (no 1 (by omega) (by omega)), h.p2.wrote hw (no 2 (by omega) (by omega)), h.p3.wrote hw (no 3 (by omega) (by omega)), h.p4.wrote hw (no 4 (by omega) (by omega)), h.p5.wrote hw (no 5 (by omega) (by omega)), hs, h.p7.wrote hw (no 7 (by omega) (by omega)), h.ap.more hw.size, h.belowW hw (fun k e => ⟨6, by omega, e⟩)⟩
/-- The clock has turned. -/
theorem IsM.setC (h : IsM B w fs p q M) {c : Int} (hw : Wrote (fun k => k = p) w (fun k => k = p) w') (hs : P0 w' p q { M with ck := c }) : IsM B w' fs p q { M with ck := c } := by
  have hH : ∀ k, k = p → ∃ i, i < 8 ∧ i = 0 ∧ hm p q i k := fun k e => ⟨0, by omega, rfl, e⟩
  have no := fun j hj hI => h.rest (H := fun k => k = p) (fun i => i = 0) hH (j := j) hj hI
  exact ⟨hs, h.p1.wrote hw (no 1 (by omega) (by omega)), h.p2.wrote hw (no 2 (by omega) (by omega)), h.p3.wrote hw (no 3 (by omega) (by omega)), h.p4.wrote hw (no 4 (by omega) (by omega)), h.p5.wrote hw (no 5 (by omega) (by omega)), h.p6.wrote hw (no 6 (by omega) (by omega)), h.p7.wrote hw (no 7 (by omega) (by omega)), h.ap.more hw.size, h.belowW hw (fun k e => ⟨0, by omega, e⟩)⟩
end Md
end Go.Proofs.YtdhkakjiahkjnaaDoor
/- The model: what its instructions answer, and the smallest of them. -/
namespace Go.Proofs.YtdhkakjiahkjnaaDoor
open Go.RowKit Go.Lib Fx Ho Gr
set_option linter.unusedVariables false
namespace Md
open Cd (Ins zi ca c4)
variable {B w w' : World} {fs : List (List Ins)} {p : Nat} {q q' : Pl} {M M' : Mo} {H H' : Home} {g a b c n : Nat} {r : Gor}
/-- An outcome. -/
def outV (v ts : Int) (ft : Bool) : Value := .agg #[.int .i64 v, .int .i64 ts, .bool ft]
def outC (v ts : Int) (ft : Bool) : Obj := .cells #[.int .i64 v, .int .i64 ts, .bool ft] 59
def insC (x : Int) (a b c : Nat) : Obj := .cells #[.int .i64 x, .int .i64 a, .int .i64 b, .int .i64 c] 26
set_option maxRecDepth 100000 in
theorem on_any (v : Int) (w : World) : Calls Tryd.prog 63 #[.int .i64 v] w (AnsB (outV v 1 false) w) := by
  go_enter Tryd.func63, Tryd.ntmps63
  go_wp2_with fail
  refine bodyPost_ret (results_cell_row (by rfl) _ _ w.heap.size 59 _ (0, 0) _ rfl (heap_alloc_new _ _) Tryd.underlying59 rfl (by kernel_rfl)) rfl ?_
  exact ⟨rfl, below_alloc (Below.refl _ _) _⟩
set_option maxRecDepth 100000 in
theorem fault_any (w : World) : Calls Tryd.prog 65 #[] w (AnsB (outV 0 5 true) w) := by
  go_enter Tryd.func65, Tryd.ntmps65
  go_wp2_with fail
  refine bodyPost_ret (results_cell_row (by rfl) _ _ w.heap.size 59 _ (0, 0) _ rfl (heap_alloc_new _ _) Tryd.underlying59 rfl (by kernel_rfl)) rfl ?_
  exact ⟨rfl, below_alloc (Below.refl _ _) _⟩
/-- The model has turned: of old blocks and new ones; what is not of it is as it was. -/
structure Tn (B w : World) (fs : List (List Ins)) (p : Nat) (q : Pl) (w' : World) (q' : Pl) (M' : Mo) : Prop where
  is : IsM B w' fs p q' M'
  nx : ∀ i k, i < 8 → hm p q' i k → (∃ j, j < 8 ∧ hm p q j k) ∨ w.heap.size ≤ k
  keep : ∀ k, k < w.heap.size → (∀ i, i < 8 → ¬ hm p q i k) → w'.heap[k]? = w.heap[k]?
  size : w.heap.size ≤ w'.heap.size
  pls : q'.ps = q.ps ∧ q'.pt = q.pt ∧ q'.pw = q.pw
  base : B.heap.size ≤ w.heap.size
theorem Tn.free (h : Tn B w fs p q w' q' M') {X : Nat} (hX : ∀ i k, i < 8 → hm p q i k → k ≠ X) (hl : X < w.heap.size) : (∀ i k, i < 8 → hm p q' i k → k ≠ X) ∧ w'.heap[X]? = w.heap[X]? :=
  ⟨fun i k hi hk => (h.nx i k hi hk).elim (fun ⟨j, hj, hk2⟩ => hX j k hj hk2) (fun e => by omega), h.keep X hl (fun i hi hk => hX i X hi hk rfl)⟩
theorem tn_of (I : Nat) (hB : B.heap.size ≤ w.heap.size) (hpl : q'.ps = q.ps ∧ q'.pt = q.pt ∧ q'.pw = q.pw) (hI : I < 8) (hw : Wrote (hm p q I) w (hm p q' I) w') (his : IsM B w' fs p q' M') (same : ∀ j k, j < 8 → j ≠ I → hm p q' j k → hm p q j k) : Tn B w fs p q w' q' M' :=
  ⟨his, fun i k hi hk => by
    by_cases e : i = I
    · subst e; exact (hw.home k hk).imp (fun e => ⟨i, hi, e⟩) (fun e => e)
    · exact .inl ⟨i, hi, same i k hi e hk⟩, fun k hk hn => hw.block k hk (hn I hI), hw.size, hpl, hB⟩
theorem Tn.trans {w2 : World} {q2 : Pl} {M2 : Mo} (h : Tn B w fs p q w' q' M') (k : Tn B w' fs p q' w2 q2 M2) : Tn B w fs p q w2 q2 M2 :=
  ⟨k.is, fun i x hi hx => (k.nx i x hi hx).elim (fun ⟨j, hj, h2⟩ => h.nx j x hj h2) (fun e => .inr (Nat.le_trans h.size e)), fun x hx hn => (k.keep x (Nat.lt_of_lt_of_le hx h.size) (fun i hi h2 => (h.nx i x hi h2).elim (fun ⟨j, hj, h3⟩ => hn j hj h3) (fun e => by omega))).trans (h.keep x hx hn), Nat.le_trans h.size k.size, ⟨k.pls.1.trans h.pls.1, k.pls.2.1.trans h.pls.2.1, k.pls.2.2.trans h.pls.2.2⟩, h.base⟩
theorem tn_refl (h : IsM B w fs p q M) : Tn B w fs p q w q M := ⟨h, fun i k hi hk => .inl ⟨i, hi, hk⟩, fun _ _ _ => rfl, Nat.le_refl _, ⟨rfl, rfl, rfl⟩, h.bel.size⟩
theorem tn_below (h : IsM B w fs p q M) (hb : Below w.heap.size w w') : Tn B w fs p q w' q M := ⟨h.below hb, fun i k hi hk => .inl ⟨i, hi, hk⟩, fun k hk _ => hb.block k hk, hb.size, ⟨rfl, rfl, rfl⟩, h.bel.size⟩
theorem tn_in (h : IsM B w fs p q M) (his : IsM B w' fs p q M') (I : Nat) (hI : I < 8) (hw : Wrote (hm p q I) w (hm p q I) w') : Tn B w fs p q w' q M' := tn_of I h.bel.size ⟨rfl, rfl, rfl⟩ hI hw his (fun _ _ _ _ hk => hk)
theorem Tn.more {w2 : World} (h : Tn B w fs p q w' q' M') (hb : Below w'.heap.size w' w2) : Tn B w fs p q w2 q' M' := h.trans (tn_below h.is hb)
/-- What a method of the model answers: an outcome, and the model is M' then. -/
def MR (B w : World) (fs : List (List Ins)) (p : Nat) (q : Pl) (M' : Mo) (v ts : Int) (ft : Bool) (e : Ending) (w' : World) : Prop := e = .returned (outV v ts ft) ∧ ∃ q', Tn B w fs p q w' q' M'
/-- A block that is not of it may be written. -/
theorem IsM.beside (h : IsM B w fs p q M) {X : Nat} (hw : Wrote (fun k => k = X) w (fun k => k = X) w') (hX : B.heap.size ≤ X) (hn : ∀ i k, i < 8 → hm p q i k → k ≠ X) : IsM B w' fs p q M := by
  have no : ∀ j, j < 8 → ∀ k, hm p q j k → ¬ (k = X) := fun j hj k hk => hn j k hj hk
  exact ⟨h.p0.wrote hw (no 0 (by omega)), h.p1.wrote hw (no 1 (by omega)), h.p2.wrote hw (no 2 (by omega)), h.p3.wrote hw (no 3 (by omega)), h.p4.wrote hw (no 4 (by omega)), h.p5.wrote hw (no 5 (by omega)), h.p6.wrote hw (no 6 (by omega)), h.p7.wrote hw (no 7 (by omega)), h.ap.more hw.size, h.bel.trans (Cd.below_of_w hw (fun k e => by have e : k = X := e; omega) h.bel.size)⟩
/-- Where the new blocks of a method lie: the instruction, the outcome. -/
theorem news (w : World) (x : Int) (a b c : Nat) : ((w.alloc (insC x a b c)).alloc (outC 0 0 false)).heap[w.heap.size]? = some (.cells #[.int .i64 x, .int .i64 a, .int .i64 b, .int .i64 c] 26 (0, 0)) ∧ ((w.alloc (insC x a b c)).alloc (outC 0 0 false)).heap[w.heap.size + 1]? = some (.cells #[.int .i64 0, .int .i64 0, .bool false] 59 (0, 0)) ∧ Below w.heap.size w ((w.alloc (insC x a b c)).alloc (outC 0 0 false)) ∧ ((w.alloc (insC x a b c)).alloc (outC 0 0 false)).heap.size = w.heap.size + 2 := by
  have s1 : ∀ (u : World) (o : Obj), (u.alloc o).heap.size = u.heap.size + 1 := fun u o => by show (u.heap.push _).size = _; rw [Array.size_push]
  have h0 : (w.alloc (insC x a b c)).heap[w.heap.size]? = some (.cells #[.int .i64 x, .int .i64 a, .int .i64 b, .int .i64 c] 26 (0, 0)) := heap_alloc_new w _
  have h1 : ((w.alloc (insC x a b c)).alloc (outC 0 0 false)).heap[(w.alloc (insC x a b c)).heap.size]? = some (.cells #[.int .i64 0, .int .i64 0, .bool false] 59 (0, 0)) := heap_alloc_new (w.alloc (insC x a b c)) _
  rw [s1] at h1
  exact ⟨((below_alloc (Below.refl _ (w.alloc (insC x a b c))) _).block _ (block_lt h0)).trans h0, h1, below_alloc (below_alloc (Below.refl _ _) _) _, by rw [s1, s1]⟩
theorem Tn.bes {w0 : World} (h : Tn B w0 fs p q w q' M') {X : Nat} (hw : Wrote (fun k => k = X) w (fun k => k = X) w') (hX : w0.heap.size ≤ X) (hn : ∀ i k, i < 8 → hm p q' i k → k ≠ X) : Tn B w0 fs p q w' q' M' :=
  ⟨h.is.beside hw (Nat.le_trans h.base hX) hn, h.nx, fun k hk hk2 => (hw.block k (Nat.lt_of_lt_of_le hk h.size) (fun e => by have e : k = X := e; omega)).trans (h.keep k hk hk2), Nat.le_trans h.size hw.size, h.pls, h.base⟩
/-- The outcome is laid down: what is told, and that the model stands. -/
theorem Tn.told {w0 : World} (h : Tn B w0 fs p q w q' M') {X : Nat} {v ts : Int} {ft : Bool} {x0 x1 x2 : Value} (hc : w.heap[X]? = some (.cells #[x0, x1, x2] 59 (0, 0))) (hX : w0.heap.size ≤ X) (hn : ∀ i k, i < 8 → hm p q' i k → k ≠ X) : w.cell? ⟨X, 0, none⟩ = some x0 ∧ w.cell? ⟨X, 1, none⟩ = some x1 ∧ w.cell? ⟨X, 2, none⟩ = some x2 ∧ w.frozen? ⟨X, 0, none⟩ = false ∧ w.frozen? ⟨X, 1, none⟩ = false ∧ w.frozen? ⟨X, 2, none⟩ = false ∧ (((w.setCell ⟨X, 0, none⟩ (.int .i64 v)).setCell ⟨X, 1, none⟩ (.int .i64 ts)).setCell ⟨X, 2, none⟩ (.bool ft)).heap[X]? = some (.cells #[.int .i64 v, .int .i64 ts, .bool ft] 59 (0, 0)) ∧ Hid (Tn B w0 fs p q (((w.setCell ⟨X, 0, none⟩ (.int .i64 v)).setCell ⟨X, 1, none⟩ (.int .i64 ts)).setCell ⟨X, 2, none⟩ (.bool ft)) q' M') := by
  have g0 := heap_setCell_same w X 0 _ _ (.int .i64 v) hc
  have g1 := heap_setCell_same _ X 1 _ _ (.int .i64 ts) g0
  have g2 := heap_setCell_same _ X 2 _ _ (.bool ft) g1
  have u0 : Wrote (fun k => k = X) w (fun k => k = X) (w.setCell ⟨X, 0, none⟩ (.int .i64 v)) := wrote_setCell (a := ⟨X, 0, none⟩) rfl rfl rfl rfl rfl
  have w1 : Wrote (fun k => k = X) (w.setCell ⟨X, 0, none⟩ (.int .i64 v)) (fun k => k = X) ((w.setCell ⟨X, 0, none⟩ (.int .i64 v)).setCell ⟨X, 1, none⟩ (.int .i64 ts)) := wrote_setCell (a := ⟨X, 1, none⟩) rfl rfl rfl rfl rfl
  have w2 : Wrote (fun k => k = X) ((w.setCell ⟨X, 0, none⟩ (.int .i64 v)).setCell ⟨X, 1, none⟩ (.int .i64 ts)) (fun k => k = X) (((w.setCell ⟨X, 0, none⟩ (.int .i64 v)).setCell ⟨X, 1, none⟩ (.int .i64 ts)).setCell ⟨X, 2, none⟩ (.bool ft)) := wrote_setCell (a := ⟨X, 2, none⟩) rfl rfl rfl rfl rfl
  exact ⟨cell_of hc rfl, cell_of hc rfl, cell_of hc rfl, frozen_of_row _ _ _ _ _ hc, frozen_of_row _ _ _ _ _ hc, frozen_of_row _ _ _ _ _ hc, g2, Lib.hid (h.bes ((u0.trans w1).trans w2) hX hn)⟩
/-- Where a goroutine's record is found. -/
theorem IsM.find (h : IsM B w fs p q M) (hg : g < M.gs.length) (hr : M.gs.getD g g0 = r) : ∃ gb go cap, w.cell? ⟨p, 2, none⟩ = some (.slice (some ⟨gb, go, none⟩) M.gs.length cap) ∧ w.cell? ⟨gb, go + g, none⟩ = some (.pointer (some ⟨q.bs.getD g 0, 0, none⟩)) ∧ w.heap[q.bs.getD g 0]? = some (.cells (gcl r).toArray 56 (0, 0)) := by
  obtain ⟨ao, gb, go, cap, e, hle, hm, hc, hcell⟩ := h.p4.row.cell
  obtain ⟨rfl, _, _⟩ := hc (by omega)
  have hl := h.p4.len
  refine ⟨gb, go, cap, ?_, (hcell g _ ?_).1, by rw [← hr]; exact h.p4.cel g hg⟩
  · rw [← e]; exact cell_of h.p0 rfl
  · rw [List.getElem?_map, List.getElem?_eq_getElem (by omega), List.getD_eq_getElem?_getD, List.getElem?_eq_getElem (by omega)]; rfl
theorem gcl_at (r : Gor) (h : a < r.sk.length) : (gcl r).toArray[3 + a]? = some (.int .i64 (r.sk.getD a 0)) := by
  rw [List.getElem?_toArray, show 3 + a = a + 3 by omega]
  show (cells r.sk)[a]? = _
  unfold cells
  rw [List.getElem?_map, List.getElem?_eq_getElem h, List.getD_eq_getElem?_getD, List.getElem?_eq_getElem h]; rfl
theorem gcl_set (r : Gor) (a : Nat) (v : Int) : (gcl r).toArray.setIfInBounds (3 + a) (.int .i64 v) = (gcl { r with sk := r.sk.set a v }).toArray := by
  rw [List.setIfInBounds_toArray, show 3 + a = a + 3 by omega]
  congr 1
  show _ :: _ :: _ :: (cells r.sk).set a _ = _
  rw [cells_set]; rfl
/-- A place of a goroutine's stack is stored. -/
theorem IsM.storeK (h : IsM B w fs p q M) (hg : g < M.gs.length) (hr : M.gs.getD g g0 = r) (ha : a < r.sk.length) (v : Int) : w.cell? ⟨q.bs.getD g 0, 3 + a, none⟩ = some (.int .i64 (r.sk.getD a 0)) ∧ w.frozen? ⟨q.bs.getD g 0, 3 + a, none⟩ = false ∧ Hid (Tn B w fs p q (w.setCell ⟨q.bs.getD g 0, 3 + a, none⟩ (.int .i64 v)) q { M with gs := M.gs.set g { r with sk := r.sk.set a v } }) := by
  obtain ⟨gb, go, cap, _, _, hb⟩ := h.find hg hr
  exact ⟨cell_of hb (gcl_at r ha), frozen_of_row _ _ _ _ _ hb, Lib.hid (tn_in h (h.setG hg _ (wrote_setCell (a := ⟨q.bs.getD g 0, 3 + a, none⟩) rfl rfl rfl rfl rfl) (by rw [heap_setCell_same _ _ (3 + a) _ _ _ hb, gcl_set])) 4 (by omega) (wrote_setCell (a := ⟨q.bs.getD g 0, 3 + a, none⟩) rfl rfl rfl rfl (h.gat hg)))⟩
end Md
end Go.Proofs.YtdhkakjiahkjnaaDoor
/- The model: its smaller instructions. -/
namespace Go.Proofs.YtdhkakjiahkjnaaDoor
open Go.RowKit Go.Lib Fx Ho Gr
set_option linter.unusedVariables false
namespace Md
open Cd (Ins zi ca c4)
variable {B w w' : World} {fs : List (List Ins)} {p : Nat} {q q' : Pl} {M M' : Mo} {H H' : Home} {g a b c n : Nat} {r : Gor}
/-- A cell of a goroutine's record is stored. -/
theorem IsM.storeR (h : IsM B w fs p q M) (hg : g < M.gs.length) (hr : M.gs.getD g g0 = r) {j : Nat} {x0 y : Value} {r' : Gor} (hx : (gcl r).toArray[j]? = some x0) (hs : (gcl r).toArray.setIfInBounds j y = (gcl r').toArray) : w.cell? ⟨q.bs.getD g 0, j, none⟩ = some x0 ∧ w.frozen? ⟨q.bs.getD g 0, j, none⟩ = false ∧ Hid (Tn B w fs p q (w.setCell ⟨q.bs.getD g 0, j, none⟩ y) q { M with gs := M.gs.set g r' }) := by
  obtain ⟨gb, go, cap, _, _, hb⟩ := h.find hg hr
  exact ⟨cell_of hb hx, frozen_of_row _ _ _ _ _ hb, Lib.hid (tn_in h (h.setG hg _ (wrote_setCell (a := ⟨q.bs.getD g 0, j, none⟩) rfl rfl rfl rfl rfl) (by rw [heap_setCell_same _ _ j _ _ _ hb, hs])) 4 (by omega) (wrote_setCell (a := ⟨q.bs.getD g 0, j, none⟩) rfl rfl rfl rfl (h.gat hg)))⟩
set_option maxRecDepth 100000 in
theorem yield_any (h : IsM B w fs p q M) (hg : g < M.gs.length) (hr : M.gs.getD g g0 = r) (hk : r.sk.length = 16) (x : Int) : Calls Tryd.prog 49 #[.pointer (some ⟨p, 0, none⟩), .int .i64 g, .agg #[.int .i64 x, .int .i64 a, .int .i64 b, .int .i64 c]] w (MR B w fs p q M 0 1 false) := by
  obtain ⟨kI, kO, hbU, sU⟩ := news w x a b c
  obtain ⟨U, hU⟩ : ∃ U, (w.alloc (insC x a b c)).alloc (outC 0 0 false) = U := ⟨_, rfl⟩
  rw [hU] at kI kO hbU sU
  have hM := h.below hbU
  obtain ⟨gb, go, cap, c2, cg, hbk⟩ := hM.find hg hr
  have i0 : U.cell? ⟨w.heap.size, 0, none⟩ = some (.int .i64 x) := cell_of kI rfl
  have i1 : U.cell? ⟨w.heap.size, 1, none⟩ = some (.int .i64 a) := cell_of kI rfl
  have i2 : U.cell? ⟨w.heap.size, 2, none⟩ = some (.int .i64 b) := cell_of kI rfl
  have i3 : U.cell? ⟨w.heap.size, 3, none⟩ = some (.int .i64 c) := cell_of kI rfl
  have hn0 : Hid (∀ i k, i < 8 → hm p q i k → k ≠ w.heap.size + 1) := Lib.hid fun i k hi hk => by have := (h.ap.low i k hi hk).2; omega
  have hX : w.heap.size ≤ w.heap.size + 1 := by omega
  have g0' : (0 : Int) ≤ (g : Int) := by omega
  have g1 : (g : Int) < (M.gs.length : Int) := by omega
  have a0 : (0 : Int) ≤ (a : Int) := by omega
  have b0 : (0 : Int) ≤ (b : Int) := by omega
  have hUlt : w.heap.size + 1 < U.heap.size := by omega
  have hMd : Hid (Tn B w fs p q U.drew q M) := Lib.hid (tn_below h hbU.drew)
  have hO : Hid (U.drew.heap[w.heap.size + 1]? = some (.cells #[.int .i64 0, .int .i64 0, .bool false] 59 (0, 0))) := Lib.hid kO
  have hMU : Hid (Tn B w fs p q U q M) := Lib.hid (tn_below h hbU)
  have hOU := Lib.hid kO
  clear h hM kI kO hbU
  go_enter Tryd.func49, Tryd.ntmps49
  go_upto_region 1 with fail
  have hU : (w.alloc (.cells #[.int .i64 x, .int .i64 a, .int .i64 b, .int .i64 c] 26)).alloc (.cells #[.int .i64 0, .int .i64 0, .bool false] 59) = U := hU
  rw [hU]
  clear hU
  obtain ⟨X, hXe⟩ : ∃ X, w.heap.size + 1 = X := ⟨_, rfl⟩
  rw [hXe] at hn0 hX hO hOU hUlt ⊢
  obtain ⟨gk, hgk⟩ : ∃ k, q.bs.getD g 0 = k := ⟨_, rfl⟩
  have hgX : gk ≠ X := hn0.out 4 gk (by omega) (.inr (hgk ▸ bs_in hMd.out.is.p4.len hg))
  rw [hgk] at cg hbk
  have hM2 := hMU
  have hO2 := hOU
  clear hMd hO hMU hOU hbk c2 cg i0 i1 i2 i3
  have con := on_any (0) U
  go_wp2_with fail
  with_reducible refine Calls.mono con ?_
  rintro e w3 ⟨rfl, hb3⟩
  obtain ⟨t0, t1, t2, f0, f1, f2, kX, hfin⟩ := (hM2.out.more hb3).told (v := 0) (ts := 1) (ft := false) ((hb3.block _ (block_lt hO2.out)).trans hO2.out) hX hn0.out
  clear hM2 hO2 con hb3
  unfold outV
  go_wp2_with fail
  refine bodyPost_ret (results_cell_row (by rfl) _ _ X 59 _ (0, 0) _ rfl kX Tryd.underlying59 rfl (by kernel_rfl)) rfl ?_
  exact ⟨rfl, _, hfin.out⟩
set_option maxRecDepth 100000 in
theorem exit_any (h : IsM B w fs p q M) (hg : g < M.gs.length) (hr : M.gs.getD g g0 = r) (hk : r.sk.length = 16) (x : Int) : Calls Tryd.prog 40 #[.pointer (some ⟨p, 0, none⟩), .int .i64 g, .agg #[.int .i64 x, .int .i64 a, .int .i64 b, .int .i64 c]] w (MR B w fs p q M 0 5 false) := by
  obtain ⟨kI, kO, hbU, sU⟩ := news w x a b c
  obtain ⟨U, hU⟩ : ∃ U, (w.alloc (insC x a b c)).alloc (outC 0 0 false) = U := ⟨_, rfl⟩
  rw [hU] at kI kO hbU sU
  have hM := h.below hbU
  obtain ⟨gb, go, cap, c2, cg, hbk⟩ := hM.find hg hr
  have i0 : U.cell? ⟨w.heap.size, 0, none⟩ = some (.int .i64 x) := cell_of kI rfl
  have i1 : U.cell? ⟨w.heap.size, 1, none⟩ = some (.int .i64 a) := cell_of kI rfl
  have i2 : U.cell? ⟨w.heap.size, 2, none⟩ = some (.int .i64 b) := cell_of kI rfl
  have i3 : U.cell? ⟨w.heap.size, 3, none⟩ = some (.int .i64 c) := cell_of kI rfl
  have hn0 : Hid (∀ i k, i < 8 → hm p q i k → k ≠ w.heap.size + 1) := Lib.hid fun i k hi hk => by have := (h.ap.low i k hi hk).2; omega
  have hX : w.heap.size ≤ w.heap.size + 1 := by omega
  have g0' : (0 : Int) ≤ (g : Int) := by omega
  have g1 : (g : Int) < (M.gs.length : Int) := by omega
  have a0 : (0 : Int) ≤ (a : Int) := by omega
  have b0 : (0 : Int) ≤ (b : Int) := by omega
  have hUlt : w.heap.size + 1 < U.heap.size := by omega
  have hMd : Hid (Tn B w fs p q U.drew q M) := Lib.hid (tn_below h hbU.drew)
  have hO : Hid (U.drew.heap[w.heap.size + 1]? = some (.cells #[.int .i64 0, .int .i64 0, .bool false] 59 (0, 0))) := Lib.hid kO
  have hMU : Hid (Tn B w fs p q U q M) := Lib.hid (tn_below h hbU)
  have hOU := Lib.hid kO
  clear h hM kI kO hbU
  go_enter Tryd.func40, Tryd.ntmps40
  go_upto_region 1 with fail
  have hU : (w.alloc (.cells #[.int .i64 x, .int .i64 a, .int .i64 b, .int .i64 c] 26)).alloc (.cells #[.int .i64 0, .int .i64 0, .bool false] 59) = U := hU
  rw [hU]
  clear hU
  obtain ⟨X, hXe⟩ : ∃ X, w.heap.size + 1 = X := ⟨_, rfl⟩
  rw [hXe] at hn0 hX hO hOU hUlt ⊢
  obtain ⟨gk, hgk⟩ : ∃ k, q.bs.getD g 0 = k := ⟨_, rfl⟩
  have hgX : gk ≠ X := hn0.out 4 gk (by omega) (.inr (hgk ▸ bs_in hMd.out.is.p4.len hg))
  rw [hgk] at cg hbk
  obtain ⟨t0, t1, t2, f0, f1, f2, kX, hfin⟩ := hMU.out.told (v := 0) (ts := 5) (ft := false) hOU.out hX hn0.out
  clear hMd hO hMU hOU hbk c2 cg i0 i1 i2 i3
  go_wp2_with fail
  refine bodyPost_ret (results_cell_row (by rfl) _ _ X 59 _ (0, 0) _ rfl kX Tryd.underlying59 rfl (by kernel_rfl)) rfl ?_
  exact ⟨rfl, _, hfin.out⟩
set_option maxRecDepth 100000 in
theorem drop_any (h : IsM B w fs p q M) (hg : g < M.gs.length) (hr : M.gs.getD g g0 = r) (hk : r.sk.length = 16) (x : Int) (ha : a < 16) : Calls Tryd.prog 45 #[.pointer (some ⟨p, 0, none⟩), .int .i64 g, .agg #[.int .i64 x, .int .i64 a, .int .i64 b, .int .i64 c]] w (MR B w fs p q { M with gs := M.gs.set g { r with sk := r.sk.set a 0 } } 0 1 false) := by
  obtain ⟨kI, kO, hbU, sU⟩ := news w x a b c
  obtain ⟨U, hU⟩ : ∃ U, (w.alloc (insC x a b c)).alloc (outC 0 0 false) = U := ⟨_, rfl⟩
  rw [hU] at kI kO hbU sU
  have hM := h.below hbU
  obtain ⟨gb, go, cap, c2, cg, hbk⟩ := hM.find hg hr
  have i0 : U.cell? ⟨w.heap.size, 0, none⟩ = some (.int .i64 x) := cell_of kI rfl
  have i1 : U.cell? ⟨w.heap.size, 1, none⟩ = some (.int .i64 a) := cell_of kI rfl
  have i2 : U.cell? ⟨w.heap.size, 2, none⟩ = some (.int .i64 b) := cell_of kI rfl
  have i3 : U.cell? ⟨w.heap.size, 3, none⟩ = some (.int .i64 c) := cell_of kI rfl
  have hn0 : Hid (∀ i k, i < 8 → hm p q i k → k ≠ w.heap.size + 1) := Lib.hid fun i k hi hk => by have := (h.ap.low i k hi hk).2; omega
  have hX : w.heap.size ≤ w.heap.size + 1 := by omega
  have g0' : (0 : Int) ≤ (g : Int) := by omega
  have g1 : (g : Int) < (M.gs.length : Int) := by omega
  have a0 : (0 : Int) ≤ (a : Int) := by omega
  have b0 : (0 : Int) ≤ (b : Int) := by omega
  have hUlt : w.heap.size + 1 < U.heap.size := by omega
  have a1 : (a : Int) < 16 := by omega
  have hMd : Hid (Tn B w fs p q U.drew q M) := Lib.hid (tn_below h hbU.drew)
  have hO : Hid (U.drew.heap[w.heap.size + 1]? = some (.cells #[.int .i64 0, .int .i64 0, .bool false] 59 (0, 0))) := Lib.hid kO
  have hMU : Hid (Tn B w fs p q U q M) := Lib.hid (tn_below h hbU)
  have hOU := Lib.hid kO
  clear h hM kI kO hbU
  go_enter Tryd.func45, Tryd.ntmps45
  go_upto_region 1 with fail
  have hU : (w.alloc (.cells #[.int .i64 x, .int .i64 a, .int .i64 b, .int .i64 c] 26)).alloc (.cells #[.int .i64 0, .int .i64 0, .bool false] 59) = U := hU
  rw [hU]
  clear hU
  obtain ⟨X, hXe⟩ : ∃ X, w.heap.size + 1 = X := ⟨_, rfl⟩
  rw [hXe] at hn0 hX hO hOU hUlt ⊢
  obtain ⟨gk, hgk⟩ : ∃ k, q.bs.getD g 0 = k := ⟨_, rfl⟩
  have hgX : gk ≠ X := hn0.out 4 gk (by omega) (.inr (hgk ▸ bs_in hMd.out.is.p4.len hg))
  rw [hgk] at cg hbk
  go_still_tail 12, (by kernel_rfl)
  change wpList _ _ _ _ _ U.drew
  obtain ⟨W1, hW1⟩ : ∃ W1, U.drew = W1 := ⟨_, rfl⟩
  rw [hW1] at hMd hO ⊢
  clear hW1
  clear c2 cg i0 i1 i2 i3 hbk hUlt hXe sU
  obtain ⟨s0, s1, hM2⟩ := hMd.out.is.storeK hg hr (a := a) (by omega) 0
  rw [hgk] at s0 s1 hM2
  have hM2 := Lib.hid (hMd.out.trans hM2.out)
  have hO2 : Hid ((W1.setCell ⟨gk, 3 + a, none⟩ (.int .i64 0)).heap[X]? = some (.cells #[.int .i64 0, .int .i64 0, .bool false] 59 (0, 0))) := Lib.hid ((Below.heap_setCell _ _ _ _ (fun e => hgX e.symm)).trans hO.out)
  clear hO hMd hMU hOU
  go_upto_region 2 with fail
  obtain ⟨W2, hW2⟩ : ∃ W2, W1.setCell ⟨gk, 3 + a, none⟩ (.int .i64 0) = W2 := ⟨_, rfl⟩
  rw [hW2] at hM2 hO2 ⊢
  clear hW2 s0 s1
  have con := on_any (0) W2
  go_wp2_with fail
  with_reducible refine Calls.mono con ?_
  rintro e w3 ⟨rfl, hb3⟩
  obtain ⟨t0, t1, t2, f0, f1, f2, kX, hfin⟩ := (hM2.out.more hb3).told (v := 0) (ts := 1) (ft := false) ((hb3.block _ (block_lt hO2.out)).trans hO2.out) hX hn0.out
  clear hM2 hO2 con hb3
  unfold outV
  go_wp2_with fail
  refine bodyPost_ret (results_cell_row (by rfl) _ _ X 59 _ (0, 0) _ rfl kX Tryd.underlying59 rfl (by kernel_rfl)) rfl ?_
  exact ⟨rfl, _, hfin.out⟩
set_option maxRecDepth 100000 in
theorem move_any (h : IsM B w fs p q M) (hg : g < M.gs.length) (hr : M.gs.getD g g0 = r) (hk : r.sk.length = 16) (x : Int) (ha : a < 16) (hb : b < 16) {y : Int} (hy : r.sk.getD b 0 = y) : Calls Tryd.prog 44 #[.pointer (some ⟨p, 0, none⟩), .int .i64 g, .agg #[.int .i64 x, .int .i64 a, .int .i64 b, .int .i64 c]] w (MR B w fs p q { M with gs := M.gs.set g { r with sk := r.sk.set a y } } 0 1 false) := by
  obtain ⟨kI, kO, hbU, sU⟩ := news w x a b c
  obtain ⟨U, hU⟩ : ∃ U, (w.alloc (insC x a b c)).alloc (outC 0 0 false) = U := ⟨_, rfl⟩
  rw [hU] at kI kO hbU sU
  have hM := h.below hbU
  obtain ⟨gb, go, cap, c2, cg, hbk⟩ := hM.find hg hr
  have i0 : U.cell? ⟨w.heap.size, 0, none⟩ = some (.int .i64 x) := cell_of kI rfl
  have i1 : U.cell? ⟨w.heap.size, 1, none⟩ = some (.int .i64 a) := cell_of kI rfl
  have i2 : U.cell? ⟨w.heap.size, 2, none⟩ = some (.int .i64 b) := cell_of kI rfl
  have i3 : U.cell? ⟨w.heap.size, 3, none⟩ = some (.int .i64 c) := cell_of kI rfl
  have hn0 : Hid (∀ i k, i < 8 → hm p q i k → k ≠ w.heap.size + 1) := Lib.hid fun i k hi hk => by have := (h.ap.low i k hi hk).2; omega
  have hX : w.heap.size ≤ w.heap.size + 1 := by omega
  have g0' : (0 : Int) ≤ (g : Int) := by omega
  have g1 : (g : Int) < (M.gs.length : Int) := by omega
  have a0 : (0 : Int) ≤ (a : Int) := by omega
  have b0 : (0 : Int) ≤ (b : Int) := by omega
  have hUlt : w.heap.size + 1 < U.heap.size := by omega
  have a1 : (a : Int) < 16 := by omega
  have b1 : (b : Int) < 16 := by omega
  have hMd : Hid (Tn B w fs p q U.drew q M) := Lib.hid (tn_below h hbU.drew)
  have hO : Hid (U.drew.heap[w.heap.size + 1]? = some (.cells #[.int .i64 0, .int .i64 0, .bool false] 59 (0, 0))) := Lib.hid kO
  have hMU : Hid (Tn B w fs p q U q M) := Lib.hid (tn_below h hbU)
  have hOU := Lib.hid kO
  clear h hM kI kO hbU
  go_enter Tryd.func44, Tryd.ntmps44
  go_upto_region 1 with fail
  have hU : (w.alloc (.cells #[.int .i64 x, .int .i64 a, .int .i64 b, .int .i64 c] 26)).alloc (.cells #[.int .i64 0, .int .i64 0, .bool false] 59) = U := hU
  rw [hU]
  clear hU
  obtain ⟨X, hXe⟩ : ∃ X, w.heap.size + 1 = X := ⟨_, rfl⟩
  rw [hXe] at hn0 hX hO hOU hUlt ⊢
  obtain ⟨gk, hgk⟩ : ∃ k, q.bs.getD g 0 = k := ⟨_, rfl⟩
  have hgX : gk ≠ X := hn0.out 4 gk (by omega) (.inr (hgk ▸ bs_in hMd.out.is.p4.len hg))
  rw [hgk] at cg hbk
  have vb := cell_of hbk (gcl_at r (a := b) (by omega))
  rw [hy] at vb
  clear hy
  go_upto_region 2 with fail
  go_still_tail 11, (by kernel_rfl)
  change wpList _ _ _ _ _ U.drew
  obtain ⟨W1, hW1⟩ : ∃ W1, U.drew = W1 := ⟨_, rfl⟩
  rw [hW1] at hMd hO ⊢
  clear hW1
  clear vb c2 cg i0 i1 i2 i3 hbk hUlt hXe sU
  obtain ⟨s0, s1, hM2⟩ := hMd.out.is.storeK hg hr (a := a) (by omega) y
  rw [hgk] at s0 s1 hM2
  have hM2 := Lib.hid (hMd.out.trans hM2.out)
  have hO2 : Hid ((W1.setCell ⟨gk, 3 + a, none⟩ (.int .i64 y)).heap[X]? = some (.cells #[.int .i64 0, .int .i64 0, .bool false] 59 (0, 0))) := Lib.hid ((Below.heap_setCell _ _ _ _ (fun e => hgX e.symm)).trans hO.out)
  clear hO hMd hMU hOU
  go_upto_region 3 with fail
  obtain ⟨W2, hW2⟩ : ∃ W2, W1.setCell ⟨gk, 3 + a, none⟩ (.int .i64 y) = W2 := ⟨_, rfl⟩
  rw [hW2] at hM2 hO2 ⊢
  clear hW2 s0 s1
  have con := on_any (0) W2
  go_wp2_with fail
  with_reducible refine Calls.mono con ?_
  rintro e w3 ⟨rfl, hb3⟩
  obtain ⟨t0, t1, t2, f0, f1, f2, kX, hfin⟩ := (hM2.out.more hb3).told (v := 0) (ts := 1) (ft := false) ((hb3.block _ (block_lt hO2.out)).trans hO2.out) hX hn0.out
  clear hM2 hO2 con hb3
  unfold outV
  go_wp2_with fail
  refine bodyPost_ret (results_cell_row (by rfl) _ _ X 59 _ (0, 0) _ rfl kX Tryd.underlying59 rfl (by kernel_rfl)) rfl ?_
  exact ⟨rfl, _, hfin.out⟩
set_option maxRecDepth 100000 in
theorem jump_any (h : IsM B w fs p q M) (hg : g < M.gs.length) (hr : M.gs.getD g g0 = r) (hk : r.sk.length = 16) (x : Int) : Calls Tryd.prog 54 #[.pointer (some ⟨p, 0, none⟩), .int .i64 g, .agg #[.int .i64 x, .int .i64 a, .int .i64 b, .int .i64 c]] w (MR B w fs p q { M with gs := M.gs.set g { r with pc := a } } 0 1 false) := by
  obtain ⟨kI, kO, hbU, sU⟩ := news w x a b c
  obtain ⟨U, hU⟩ : ∃ U, (w.alloc (insC x a b c)).alloc (outC 0 0 false) = U := ⟨_, rfl⟩
  rw [hU] at kI kO hbU sU
  have hM := h.below hbU
  obtain ⟨gb, go, cap, c2, cg, hbk⟩ := hM.find hg hr
  have i0 : U.cell? ⟨w.heap.size, 0, none⟩ = some (.int .i64 x) := cell_of kI rfl
  have i1 : U.cell? ⟨w.heap.size, 1, none⟩ = some (.int .i64 a) := cell_of kI rfl
  have i2 : U.cell? ⟨w.heap.size, 2, none⟩ = some (.int .i64 b) := cell_of kI rfl
  have i3 : U.cell? ⟨w.heap.size, 3, none⟩ = some (.int .i64 c) := cell_of kI rfl
  have hn0 : Hid (∀ i k, i < 8 → hm p q i k → k ≠ w.heap.size + 1) := Lib.hid fun i k hi hk => by have := (h.ap.low i k hi hk).2; omega
  have hX : w.heap.size ≤ w.heap.size + 1 := by omega
  have g0' : (0 : Int) ≤ (g : Int) := by omega
  have g1 : (g : Int) < (M.gs.length : Int) := by omega
  have a0 : (0 : Int) ≤ (a : Int) := by omega
  have b0 : (0 : Int) ≤ (b : Int) := by omega
  have hUlt : w.heap.size + 1 < U.heap.size := by omega
  have hMd : Hid (Tn B w fs p q U.drew q M) := Lib.hid (tn_below h hbU.drew)
  have hO : Hid (U.drew.heap[w.heap.size + 1]? = some (.cells #[.int .i64 0, .int .i64 0, .bool false] 59 (0, 0))) := Lib.hid kO
  have hMU : Hid (Tn B w fs p q U q M) := Lib.hid (tn_below h hbU)
  have hOU := Lib.hid kO
  clear h hM kI kO hbU
  go_enter Tryd.func54, Tryd.ntmps54
  go_upto_region 1 with fail
  have hU : (w.alloc (.cells #[.int .i64 x, .int .i64 a, .int .i64 b, .int .i64 c] 26)).alloc (.cells #[.int .i64 0, .int .i64 0, .bool false] 59) = U := hU
  rw [hU]
  clear hU
  obtain ⟨X, hXe⟩ : ∃ X, w.heap.size + 1 = X := ⟨_, rfl⟩
  rw [hXe] at hn0 hX hO hOU hUlt ⊢
  obtain ⟨gk, hgk⟩ : ∃ k, q.bs.getD g 0 = k := ⟨_, rfl⟩
  have hgX : gk ≠ X := hn0.out 4 gk (by omega) (.inr (hgk ▸ bs_in hMd.out.is.p4.len hg))
  rw [hgk] at cg hbk
  go_still_tail 11, (by kernel_rfl)
  change wpList _ _ _ _ _ U.drew
  obtain ⟨W1, hW1⟩ : ∃ W1, U.drew = W1 := ⟨_, rfl⟩
  rw [hW1] at hMd hO ⊢
  clear hW1
  clear c2 cg i0 i1 i2 i3 hbk hUlt hXe sU
  obtain ⟨s0, s1, hM2⟩ := hMd.out.is.storeR hg hr (j := 1) (y := .int .i64 a) (r' := { r with pc := a }) rfl rfl
  rw [hgk] at s0 s1 hM2
  have hM2 := Lib.hid (hMd.out.trans hM2.out)
  have hO2 : Hid ((W1.setCell ⟨gk, 1, none⟩ (.int .i64 a)).heap[X]? = some (.cells #[.int .i64 0, .int .i64 0, .bool false] 59 (0, 0))) := Lib.hid ((Below.heap_setCell _ _ _ _ (fun e => hgX e.symm)).trans hO.out)
  clear hO hMd hMU hOU
  go_upto_region 2 with fail
  obtain ⟨W2, hW2⟩ : ∃ W2, W1.setCell ⟨gk, 1, none⟩ (.int .i64 a) = W2 := ⟨_, rfl⟩
  rw [hW2] at hM2 hO2 ⊢
  clear hW2 s0 s1
  have con := on_any (0) W2
  go_wp2_with fail
  with_reducible refine Calls.mono con ?_
  rintro e w3 ⟨rfl, hb3⟩
  obtain ⟨t0, t1, t2, f0, f1, f2, kX, hfin⟩ := (hM2.out.more hb3).told (v := 0) (ts := 1) (ft := false) ((hb3.block _ (block_lt hO2.out)).trans hO2.out) hX hn0.out
  clear hM2 hO2 con hb3
  unfold outV
  go_wp2_with fail
  refine bodyPost_ret (results_cell_row (by rfl) _ _ X 59 _ (0, 0) _ rfl kX Tryd.underlying59 rfl (by kernel_rfl)) rfl ?_
  exact ⟨rfl, _, hfin.out⟩
set_option maxRecDepth 100000 in
theorem set_any (h : IsM B w fs p q M) (hg : g < M.gs.length) (hr : M.gs.getD g g0 = r) (hk : r.sk.length = 16) (x : Int) (ha : a < 256) (hb : b < 256) : Calls Tryd.prog 56 #[.pointer (some ⟨p, 0, none⟩), .int .i64 g, .agg #[.int .i64 x, .int .i64 a, .int .i64 b, .int .i64 c]] w (MR B w fs p q { M with gs := M.gs.set g { r with ct := 256 * a + b } } 0 1 false) := by
  obtain ⟨kI, kO, hbU, sU⟩ := news w x a b c
  obtain ⟨U, hU⟩ : ∃ U, (w.alloc (insC x a b c)).alloc (outC 0 0 false) = U := ⟨_, rfl⟩
  rw [hU] at kI kO hbU sU
  have hM := h.below hbU
  obtain ⟨gb, go, cap, c2, cg, hbk⟩ := hM.find hg hr
  have i0 : U.cell? ⟨w.heap.size, 0, none⟩ = some (.int .i64 x) := cell_of kI rfl
  have i1 : U.cell? ⟨w.heap.size, 1, none⟩ = some (.int .i64 a) := cell_of kI rfl
  have i2 : U.cell? ⟨w.heap.size, 2, none⟩ = some (.int .i64 b) := cell_of kI rfl
  have i3 : U.cell? ⟨w.heap.size, 3, none⟩ = some (.int .i64 c) := cell_of kI rfl
  have hn0 : Hid (∀ i k, i < 8 → hm p q i k → k ≠ w.heap.size + 1) := Lib.hid fun i k hi hk => by have := (h.ap.low i k hi hk).2; omega
  have hX : w.heap.size ≤ w.heap.size + 1 := by omega
  have g0' : (0 : Int) ≤ (g : Int) := by omega
  have g1 : (g : Int) < (M.gs.length : Int) := by omega
  have a0 : (0 : Int) ≤ (a : Int) := by omega
  have b0 : (0 : Int) ≤ (b : Int) := by omega
  have hUlt : w.heap.size + 1 < U.heap.size := by omega
  have hMd : Hid (Tn B w fs p q U.drew q M) := Lib.hid (tn_below h hbU.drew)
  have hO : Hid (U.drew.heap[w.heap.size + 1]? = some (.cells #[.int .i64 0, .int .i64 0, .bool false] 59 (0, 0))) := Lib.hid kO
  have hMU : Hid (Tn B w fs p q U q M) := Lib.hid (tn_below h hbU)
  have hOU := Lib.hid kO
  clear h hM kI kO hbU
  go_enter Tryd.func56, Tryd.ntmps56
  go_upto_region 1 with fail
  have hU : (w.alloc (.cells #[.int .i64 x, .int .i64 a, .int .i64 b, .int .i64 c] 26)).alloc (.cells #[.int .i64 0, .int .i64 0, .bool false] 59) = U := hU
  rw [hU]
  clear hU
  obtain ⟨X, hXe⟩ : ∃ X, w.heap.size + 1 = X := ⟨_, rfl⟩
  rw [hXe] at hn0 hX hO hOU hUlt ⊢
  obtain ⟨gk, hgk⟩ : ∃ k, q.bs.getD g 0 = k := ⟨_, rfl⟩
  have hgX : gk ≠ X := hn0.out 4 gk (by omega) (.inr (hgk ▸ bs_in hMd.out.is.p4.len hg))
  rw [hgk] at cg hbk
  have e1 : IntKind.i64.wrap (256 * (a : Int)) = 256 * (a : Int) := by rw [IntKind.wrap_i64]; omega
  have e2 : IntKind.i64.wrap (256 * (a : Int) + (b : Int)) = 256 * (a : Int) + (b : Int) := by rw [IntKind.wrap_i64]; omega
  go_still_tail 15, (by kernel_rfl)
  change wpList _ _ _ _ _ U.drew
  obtain ⟨W1, hW1⟩ : ∃ W1, U.drew = W1 := ⟨_, rfl⟩
  rw [hW1] at hMd hO ⊢
  clear hW1
  clear c2 cg i0 i1 i2 i3 hbk hUlt hXe sU
  have e3 : ((256 * a + b : Nat) : Int) = 256 * (a : Int) + (b : Int) := by omega
  obtain ⟨s0, s1, hM2⟩ := hMd.out.is.storeR hg hr (j := 2) (y := .int .i64 ((256 * a + b : Nat) : Int)) (r' := { r with ct := 256 * a + b }) rfl rfl
  rw [e3] at hM2
  clear e3
  rw [hgk] at s0 s1 hM2
  have hM2 := Lib.hid (hMd.out.trans hM2.out)
  have hO2 : Hid ((W1.setCell ⟨gk, 2, none⟩ (.int .i64 (256 * (a : Int) + (b : Int)))).heap[X]? = some (.cells #[.int .i64 0, .int .i64 0, .bool false] 59 (0, 0))) := Lib.hid ((Below.heap_setCell _ _ _ _ (fun e => hgX e.symm)).trans hO.out)
  clear hO hMd hMU hOU
  go_upto_region 2 with fail
  obtain ⟨W2, hW2⟩ : ∃ W2, W1.setCell ⟨gk, 2, none⟩ (.int .i64 (256 * (a : Int) + (b : Int))) = W2 := ⟨_, rfl⟩
  rw [hW2] at hM2 hO2 ⊢
  clear hW2 s0 s1
  have con := on_any (0) W2
  go_wp2_with fail
  with_reducible refine Calls.mono con ?_
  rintro e w3 ⟨rfl, hb3⟩
  obtain ⟨t0, t1, t2, f0, f1, f2, kX, hfin⟩ := (hM2.out.more hb3).told (v := 0) (ts := 1) (ft := false) ((hb3.block _ (block_lt hO2.out)).trans hO2.out) hX hn0.out
  clear hM2 hO2 con hb3
  unfold outV
  go_wp2_with fail
  refine bodyPost_ret (results_cell_row (by rfl) _ _ X 59 _ (0, 0) _ rfl kX Tryd.underlying59 rfl (by kernel_rfl)) rfl ?_
  exact ⟨rfl, _, hfin.out⟩
end Md
end Go.Proofs.YtdhkakjiahkjnaaDoor
/- The model: instructions that compare, count, get and put. -/
namespace Go.Proofs.YtdhkakjiahkjnaaDoor
open Go.RowKit Go.Lib Fx Ho Gr
set_option linter.unusedVariables false
namespace Md
open Cd (Ins zi ca c4)
variable {B w w' : World} {fs : List (List Ins)} {p : Nat} {q : Pl} {M : Mo} {H H' : Home} {g a b c n : Nat} {r : Gor}
/-- Where a global is found, and what a store there comes to. -/
theorem IsM.findL (h : IsM B w fs p q M) (hb : b < M.gl.length) : ∃ lb lo cap, w.cell? ⟨p, 7, none⟩ = some (.slice (some ⟨lb, lo, none⟩) M.gl.length cap) ∧ w.cell? ⟨lb, lo + b, none⟩ = some (.int .i64 (M.gl.getD b 0)) ∧ w.frozen? ⟨lb, lo + b, none⟩ = false ∧ ∀ v, Hid (Tn B w fs p q (w.setCell ⟨lb, lo + b, none⟩ (.int .i64 v)) q { M with gl := M.gl.set b v }) := by
  obtain ⟨ao, lb, lo, cap, e, hle, hm, hc, hcell⟩ := GRow.cell h.p6
  obtain ⟨rfl, _, ho⟩ := hc (by omega)
  have k := hcell b (.int .i64 (M.gl.getD b 0)) (by unfold cells; rw [List.getElem?_map, List.getElem?_eq_getElem hb, List.getD_eq_getElem?_getD, List.getElem?_eq_getElem hb]; rfl)
  refine ⟨lb, lo, cap, by rw [← e]; exact cell_of h.p0 rfl, k.1, k.2, fun v => Lib.hid ?_⟩
  have hw : Wrote (fun k => q.glv.ownBlock = some k) w (fun k => q.glv.ownBlock = some k) (w.setCell ⟨lb, lo + b, none⟩ (.int .i64 v)) := wrote_setCell (a := ⟨lb, lo + b, none⟩) rfl rfl rfl rfl (by rw [e]; rfl)
  refine tn_in h (h.setL hw ?_) 6 (by omega) hw
  have h6 : GRow 1 w q.glv M.gl.length (cells M.gl) := h.p6
  rw [e] at h6 ⊢
  rw [List.length_set, ← cells_set]
  exact h6.set (by omega)
set_option maxRecDepth 100000 in
theorem same_any (h : IsM B w fs p q M) (hg : g < M.gs.length) (hr : M.gs.getD g g0 = r) (hk : r.sk.length = 16) (x : Int) (ha : a < 16) (hb : b < 16) {y z : Int} (hy : r.sk.getD a 0 = y) (hz : r.sk.getD b 0 = z) : Calls Tryd.prog 69 #[.pointer (some ⟨p, 0, none⟩), .int .i64 g, .agg #[.int .i64 x, .int .i64 a, .int .i64 b, .int .i64 c]] w (AnsB (.bool (y == z)) w) := by
  have hbU := below_alloc (Below.refl w.heap.size w) (.cells #[.int .i64 x, .int .i64 a, .int .i64 b, .int .i64 c] 26)
  have kI := heap_alloc_new w (.cells #[.int .i64 x, .int .i64 a, .int .i64 b, .int .i64 c] 26)
  obtain ⟨U, hU⟩ : ∃ U, w.alloc (.cells #[.int .i64 x, .int .i64 a, .int .i64 b, .int .i64 c] 26) = U := ⟨_, rfl⟩
  have hU2 := hU
  rw [hU] at kI hbU
  have hM := h.below hbU
  obtain ⟨gb, go, cap, c2, cg, hbk⟩ := hM.find hg hr
  have i1 : U.cell? ⟨w.heap.size, 1, none⟩ = some (.int .i64 a) := cell_of kI rfl
  have i2 : U.cell? ⟨w.heap.size, 2, none⟩ = some (.int .i64 b) := cell_of kI rfl
  have va := cell_of hbk (gcl_at r (a := a) (by omega))
  have vb := cell_of hbk (gcl_at r (a := b) (by omega))
  rw [hy] at va
  rw [hz] at vb
  have g0' : (0 : Int) ≤ (g : Int) := by omega
  have g1 : (g : Int) < (M.gs.length : Int) := by omega
  have a0 : (0 : Int) ≤ (a : Int) := by omega
  have b0 : (0 : Int) ≤ (b : Int) := by omega
  have a1 : (a : Int) < 16 := by omega
  have b1 : (b : Int) < 16 := by omega
  replace hbU := Lib.hid hbU
  clear h hM kI hbk hU hy hz
  go_enter Tryd.func69, Tryd.ntmps69
  go_upto_region 1 with fail
  clear hU2
  obtain ⟨gk, hgk⟩ : ∃ k, q.bs.getD g 0 = k := ⟨_, rfl⟩
  rw [hgk] at cg va vb
  clear hgk
  go_wp2_with fail
  go_quiet (fail)
  go_wp2_with fail
  go_ret
  exact ⟨rfl, by repeat (first | exact hbU.out | refine below_drewN ?_ _ | refine Below.drew ?_)⟩
set_option maxRecDepth 100000 in
theorem eq_any (h : IsM B w fs p q M) (hg : g < M.gs.length) (hr : M.gs.getD g g0 = r) (hk : r.sk.length = 16) (x : Int) (ha : a < 16) (hb : b < 16) {y z : Int} (hy : r.sk.getD a 0 = y) (hz : r.sk.getD b 0 = z) {v : Int} (hv : Hid (v = if y == z then 1 else 0)) : Calls Tryd.prog 53 #[.pointer (some ⟨p, 0, none⟩), .int .i64 g, .agg #[.int .i64 x, .int .i64 a, .int .i64 b, .int .i64 c]] w (MR B w fs p q M v 1 false) := by
  obtain ⟨kI, kO, hbU, sU⟩ := news w x a b c
  obtain ⟨U, hU⟩ : ∃ U, (w.alloc (insC x a b c)).alloc (outC 0 0 false) = U := ⟨_, rfl⟩
  rw [hU] at kI kO hbU sU
  have hM := h.below hbU
  obtain ⟨gb, go, cap, c2, cg, hbk⟩ := hM.find hg hr
  have i0 : U.cell? ⟨w.heap.size, 0, none⟩ = some (.int .i64 x) := cell_of kI rfl
  have i1 : U.cell? ⟨w.heap.size, 1, none⟩ = some (.int .i64 a) := cell_of kI rfl
  have i2 : U.cell? ⟨w.heap.size, 2, none⟩ = some (.int .i64 b) := cell_of kI rfl
  have i3 : U.cell? ⟨w.heap.size, 3, none⟩ = some (.int .i64 c) := cell_of kI rfl
  have hn0 : Hid (∀ i k, i < 8 → hm p q i k → k ≠ w.heap.size + 1) := Lib.hid fun i k hi hk => by have := (h.ap.low i k hi hk).2; omega
  have hX : w.heap.size ≤ w.heap.size + 1 := by omega
  have g0' : (0 : Int) ≤ (g : Int) := by omega
  have g1 : (g : Int) < (M.gs.length : Int) := by omega
  have a0 : (0 : Int) ≤ (a : Int) := by omega
  have b0 : (0 : Int) ≤ (b : Int) := by omega
  have hUlt : w.heap.size + 1 < U.heap.size := by omega
  have hMd : Hid (Tn B w fs p q U.drew q M) := Lib.hid (tn_below h hbU.drew)
  have hO : Hid (U.drew.heap[w.heap.size + 1]? = some (.cells #[.int .i64 0, .int .i64 0, .bool false] 59 (0, 0))) := Lib.hid kO
  have hMU : Hid (Tn B w fs p q U q M) := Lib.hid (tn_below h hbU)
  have hOU := Lib.hid kO
  clear h hM kI kO hbU
  go_enter Tryd.func53, Tryd.ntmps53
  go_upto_region 1 with fail
  have hU : (w.alloc (.cells #[.int .i64 x, .int .i64 a, .int .i64 b, .int .i64 c] 26)).alloc (.cells #[.int .i64 0, .int .i64 0, .bool false] 59) = U := hU
  rw [hU]
  clear hU
  obtain ⟨X, hXe⟩ : ∃ X, w.heap.size + 1 = X := ⟨_, rfl⟩
  rw [hXe] at hn0 hX hO hOU hUlt ⊢
  obtain ⟨gk, hgk⟩ : ∃ k, q.bs.getD g 0 = k := ⟨_, rfl⟩
  have hgX : gk ≠ X := hn0.out 4 gk (by omega) (.inr (hgk ▸ bs_in hMd.out.is.p4.len hg))
  rw [hgk] at cg hbk
  have cs := same_any hMU.out.is hg hr hk x ha hb hy hz (c := c)
  clear hMd hO hbk c2 cg
  go_wp2_with fail
  with_reducible refine Calls.mono cs ?_
  rintro e wq ⟨rfl, hbq⟩
  have hM2 := Lib.hid (hMU.out.more hbq)
  have hO2 := Lib.hid ((hbq.block _ (block_lt hOU.out)).trans hOU.out)
  clear cs hMU hOU hbq i0 i1 i2 i3
  cases hyz : y == z
  · obtain rfl : v = 0 := by rw [hv.out, hyz]; rfl
    clear hv
    have con := on_any (0) wq
    go_wp2_with fail
    with_reducible refine Calls.mono con ?_
    rintro e w3 ⟨rfl, hb3⟩
    obtain ⟨t0, t1, t2, f0, f1, f2, kX, hfin⟩ := (hM2.out.more hb3).told (v := 0) (ts := 1) (ft := false) ((hb3.block _ (block_lt hO2.out)).trans hO2.out) hX hn0.out
    clear hM2 hO2 con hb3
    unfold outV
    go_wp2_with fail
    refine bodyPost_ret (results_cell_row (by rfl) _ _ X 59 _ (0, 0) _ rfl kX Tryd.underlying59 rfl (by kernel_rfl)) rfl ?_
    exact ⟨rfl, _, hfin.out⟩
  · obtain rfl : v = 1 := by rw [hv.out, hyz]; rfl
    clear hv
    have con := on_any (1) wq
    go_wp2_with fail
    with_reducible refine Calls.mono con ?_
    rintro e w3 ⟨rfl, hb3⟩
    obtain ⟨t0, t1, t2, f0, f1, f2, kX, hfin⟩ := (hM2.out.more hb3).told (v := 1) (ts := 1) (ft := false) ((hb3.block _ (block_lt hO2.out)).trans hO2.out) hX hn0.out
    clear hM2 hO2 con hb3
    unfold outV
    go_wp2_with fail
    refine bodyPost_ret (results_cell_row (by rfl) _ _ X 59 _ (0, 0) _ rfl kX Tryd.underlying59 rfl (by kernel_rfl)) rfl ?_
    exact ⟨rfl, _, hfin.out⟩
set_option maxRecDepth 100000 in
theorem jeq_any (h : IsM B w fs p q M) (hg : g < M.gs.length) (hr : M.gs.getD g g0 = r) (hk : r.sk.length = 16) (x : Int) (ha : a < 16) (hb : b < 16) {y z : Int} (hy : r.sk.getD a 0 = y) (hz : r.sk.getD b 0 = z) {M2 : Mo} (hv : Hid (M2 = if y == z then { M with gs := M.gs.set g { r with pc := c } } else M)) : Calls Tryd.prog 55 #[.pointer (some ⟨p, 0, none⟩), .int .i64 g, .agg #[.int .i64 x, .int .i64 a, .int .i64 b, .int .i64 c]] w (MR B w fs p q M2 0 1 false) := by
  obtain ⟨kI, kO, hbU, sU⟩ := news w x a b c
  obtain ⟨U, hU⟩ : ∃ U, (w.alloc (insC x a b c)).alloc (outC 0 0 false) = U := ⟨_, rfl⟩
  rw [hU] at kI kO hbU sU
  have hM := h.below hbU
  obtain ⟨gb, go, cap, c2, cg, hbk⟩ := hM.find hg hr
  have i0 : U.cell? ⟨w.heap.size, 0, none⟩ = some (.int .i64 x) := cell_of kI rfl
  have i1 : U.cell? ⟨w.heap.size, 1, none⟩ = some (.int .i64 a) := cell_of kI rfl
  have i2 : U.cell? ⟨w.heap.size, 2, none⟩ = some (.int .i64 b) := cell_of kI rfl
  have i3 : U.cell? ⟨w.heap.size, 3, none⟩ = some (.int .i64 c) := cell_of kI rfl
  have hn0 : Hid (∀ i k, i < 8 → hm p q i k → k ≠ w.heap.size + 1) := Lib.hid fun i k hi hk => by have := (h.ap.low i k hi hk).2; omega
  have hX : w.heap.size ≤ w.heap.size + 1 := by omega
  have g0' : (0 : Int) ≤ (g : Int) := by omega
  have g1 : (g : Int) < (M.gs.length : Int) := by omega
  have a0 : (0 : Int) ≤ (a : Int) := by omega
  have b0 : (0 : Int) ≤ (b : Int) := by omega
  have hUlt : w.heap.size + 1 < U.heap.size := by omega
  have hMd : Hid (Tn B w fs p q U.drew q M) := Lib.hid (tn_below h hbU.drew)
  have hO : Hid (U.drew.heap[w.heap.size + 1]? = some (.cells #[.int .i64 0, .int .i64 0, .bool false] 59 (0, 0))) := Lib.hid kO
  have hMU : Hid (Tn B w fs p q U q M) := Lib.hid (tn_below h hbU)
  have hOU := Lib.hid kO
  clear h hM kI kO hbU
  go_enter Tryd.func55, Tryd.ntmps55
  go_upto_region 1 with fail
  have hU : (w.alloc (.cells #[.int .i64 x, .int .i64 a, .int .i64 b, .int .i64 c] 26)).alloc (.cells #[.int .i64 0, .int .i64 0, .bool false] 59) = U := hU
  rw [hU]
  clear hU
  obtain ⟨X, hXe⟩ : ∃ X, w.heap.size + 1 = X := ⟨_, rfl⟩
  rw [hXe] at hn0 hX hO hOU hUlt ⊢
  obtain ⟨gk, hgk⟩ : ∃ k, q.bs.getD g 0 = k := ⟨_, rfl⟩
  have hgX : gk ≠ X := hn0.out 4 gk (by omega) (.inr (hgk ▸ bs_in hMd.out.is.p4.len hg))
  rw [hgk] at cg hbk
  have cs := same_any hMU.out.is hg hr hk x ha hb hy hz (c := c)
  clear hMd hO hbk c2 cg
  go_wp2_with fail
  with_reducible refine Calls.mono cs ?_
  rintro e wq ⟨rfl, hbq⟩
  have hM2 := Lib.hid (hMU.out.more hbq)
  have hO2 := Lib.hid ((hbq.block _ (block_lt hOU.out)).trans hOU.out)
  have i3 := cell_then hbq i3
  clear cs hMU hOU hbq i0 i1 i2
  cases hyz : y == z
  · obtain rfl : M2 = M := by rw [hv.out, hyz]; rfl
    clear hv
    have con := on_any (0) wq
    go_wp2_with fail
    with_reducible refine Calls.mono con ?_
    rintro e w3 ⟨rfl, hb3⟩
    obtain ⟨t0, t1, t2, f0, f1, f2, kX, hfin⟩ := (hM2.out.more hb3).told (v := 0) (ts := 1) (ft := false) ((hb3.block _ (block_lt hO2.out)).trans hO2.out) hX hn0.out
    clear hM2 hO2 con hb3
    unfold outV
    go_wp2_with fail
    refine bodyPost_ret (results_cell_row (by rfl) _ _ X 59 _ (0, 0) _ rfl kX Tryd.underlying59 rfl (by kernel_rfl)) rfl ?_
    exact ⟨rfl, _, hfin.out⟩
  · obtain rfl : M2 = { M with gs := M.gs.set g { r with pc := c } } := by rw [hv.out, hyz]; rfl
    clear hv
    obtain ⟨gb, go, cap, c2, cg, hbk⟩ := hM2.out.is.find hg hr
    rw [hgk] at cg hbk
    have c0 : (0 : Int) ≤ (c : Int) := by omega
    have hMd := Lib.hid (hM2.out.more (Below.refl _ _).drew)
    have hO : Hid (wq.drew.heap[X]? = some (.cells #[.int .i64 0, .int .i64 0, .bool false] 59 (0, 0))) := Lib.hid hO2.out
    clear hM2 hO2
    go_upto_region 2 with fail
    go_still_tail 11, (by kernel_rfl)
    change wpList _ _ _ _ _ wq.drew
    obtain ⟨W1, hW1⟩ : ∃ W1, wq.drew = W1 := ⟨_, rfl⟩
    rw [hW1] at hMd hO ⊢
    clear hW1 c2 cg i3 hbk
    obtain ⟨s0, s1, hM2⟩ := hMd.out.is.storeR hg hr (j := 1) (y := .int .i64 c) (r' := { r with pc := c }) rfl rfl
    rw [hgk] at s0 s1 hM2
    have hM2 := Lib.hid (hMd.out.trans hM2.out)
    have hO2 : Hid ((W1.setCell ⟨gk, 1, none⟩ (.int .i64 c)).heap[X]? = some (.cells #[.int .i64 0, .int .i64 0, .bool false] 59 (0, 0))) := Lib.hid ((Below.heap_setCell _ _ _ _ (fun e => hgX e.symm)).trans hO.out)
    clear hO hMd
    go_upto_region 3 with fail
    obtain ⟨W2, hW2⟩ : ∃ W2, W1.setCell ⟨gk, 1, none⟩ (.int .i64 c) = W2 := ⟨_, rfl⟩
    rw [hW2] at hM2 hO2 ⊢
    clear hW2 s0 s1
    have con := on_any (0) W2
    go_wp2_with fail
    with_reducible refine Calls.mono con ?_
    rintro e w3 ⟨rfl, hb3⟩
    obtain ⟨t0, t1, t2, f0, f1, f2, kX, hfin⟩ := (hM2.out.more hb3).told (v := 0) (ts := 1) (ft := false) ((hb3.block _ (block_lt hO2.out)).trans hO2.out) hX hn0.out
    clear hM2 hO2 con hb3
    unfold outV
    go_wp2_with fail
    refine bodyPost_ret (results_cell_row (by rfl) _ _ X 59 _ (0, 0) _ rfl kX Tryd.underlying59 rfl (by kernel_rfl)) rfl ?_
    exact ⟨rfl, _, hfin.out⟩
set_option maxRecDepth 100000 in
theorem dec_any (h : IsM B w fs p q M) (hg : g < M.gs.length) (hr : M.gs.getD g g0 = r) (hct6 : r.ct ≤ 65536) (x : Int) {M2 : Mo} (hv : Hid (M2 = if 0 < r.ct then { M with gs := M.gs.set g { r with ct := r.ct - 1, pc := a } } else M)) : Calls Tryd.prog 57 #[.pointer (some ⟨p, 0, none⟩), .int .i64 g, .agg #[.int .i64 x, .int .i64 a, .int .i64 b, .int .i64 c]] w (MR B w fs p q M2 0 1 false) := by
  have h0 := h
  obtain ⟨kI, kO, hbU, sU⟩ := news w x a b c
  obtain ⟨U, hU⟩ : ∃ U, (w.alloc (insC x a b c)).alloc (outC 0 0 false) = U := ⟨_, rfl⟩
  rw [hU] at kI kO hbU sU
  have hM := h.below hbU
  obtain ⟨gb, go, cap, c2, cg, hbk⟩ := hM.find hg hr
  have i0 : U.cell? ⟨w.heap.size, 0, none⟩ = some (.int .i64 x) := cell_of kI rfl
  have i1 : U.cell? ⟨w.heap.size, 1, none⟩ = some (.int .i64 a) := cell_of kI rfl
  have i2 : U.cell? ⟨w.heap.size, 2, none⟩ = some (.int .i64 b) := cell_of kI rfl
  have i3 : U.cell? ⟨w.heap.size, 3, none⟩ = some (.int .i64 c) := cell_of kI rfl
  have hn0 : Hid (∀ i k, i < 8 → hm p q i k → k ≠ w.heap.size + 1) := Lib.hid fun i k hi hk => by have := (h.ap.low i k hi hk).2; omega
  have hX : w.heap.size ≤ w.heap.size + 1 := by omega
  have g0' : (0 : Int) ≤ (g : Int) := by omega
  have g1 : (g : Int) < (M.gs.length : Int) := by omega
  have a0 : (0 : Int) ≤ (a : Int) := by omega
  have b0 : (0 : Int) ≤ (b : Int) := by omega
  have hUlt : w.heap.size + 1 < U.heap.size := by omega
  have hMd : Hid (Tn B w fs p q U.drew q M) := Lib.hid (tn_below h hbU.drew)
  have hO : Hid (U.drew.heap[w.heap.size + 1]? = some (.cells #[.int .i64 0, .int .i64 0, .bool false] 59 (0, 0))) := Lib.hid kO
  have hMU : Hid (Tn B w fs p q U q M) := Lib.hid (tn_below h hbU)
  have hOU := Lib.hid kO
  clear h hM kI kO hbU
  replace h0 := Lib.hid h0
  go_enter Tryd.func57, Tryd.ntmps57
  go_upto_region 1 with fail
  have hU : (w.alloc (.cells #[.int .i64 x, .int .i64 a, .int .i64 b, .int .i64 c] 26)).alloc (.cells #[.int .i64 0, .int .i64 0, .bool false] 59) = U := hU
  rw [hU]
  clear hU
  obtain ⟨X, hXe⟩ : ∃ X, w.heap.size + 1 = X := ⟨_, rfl⟩
  rw [hXe] at hn0 hX hO hOU hUlt ⊢
  obtain ⟨gk, hgk⟩ : ∃ k, q.bs.getD g 0 = k := ⟨_, rfl⟩
  have hgX : gk ≠ X := hn0.out 4 gk (by omega) (.inr (hgk ▸ bs_in hMd.out.is.p4.len hg))
  rw [hgk] at cg hbk
  have hgN : gk ≠ w.heap.size := by have := (h0.out.ap.low 4 gk (by omega) (.inr (hgk ▸ bs_in h0.out.p4.len hg))).2; omega
  clear h0
  have d2 : U.cell? ⟨gk, 2, none⟩ = some (.int .i64 r.ct) := cell_of hbk rfl
  have ct0 : (0 : Int) ≤ (r.ct : Int) := by omega
  clear hMd hO
  by_cases hct : 0 < r.ct
  · obtain rfl : M2 = { M with gs := M.gs.set g { r with ct := r.ct - 1, pc := a } } := by rw [hv.out, if_pos hct]
    clear hv
    have e1 : decide (0 < (r.ct : Int)) = true := decide_eq_true (by omega)
    have e2 : (0 : Int) < (r.ct : Int) := by omega
    have e3 : ((r.ct - 1 : Nat) : Int) = (r.ct : Int) - 1 := by omega
    have hct9 : (r.ct : Int) ≤ 9223372036854775807 := by omega
    obtain ⟨s0, s1, hM3⟩ := hMU.out.is.storeR hg hr (j := 2) (y := .int .i64 ((r.ct - 1 : Nat) : Int)) (r' := { r with ct := r.ct - 1 }) rfl rfl
    rw [e3, hgk] at hM3
    rw [hgk] at s0 s1
    have hg3 : g < (M.gs.set g { r with ct := r.ct - 1 }).length := by rw [List.length_set]; exact hg
    have hr3 : (M.gs.set g { r with ct := r.ct - 1 }).getD g g0 = { r with ct := r.ct - 1 } := by rw [List.getD_eq_getElem?_getD, List.getElem?_set_self hg]; rfl
    obtain ⟨s2, s3, hM4⟩ := hM3.out.is.storeR hg3 hr3 (j := 1) (y := .int .i64 a) (r' := { r with ct := r.ct - 1, pc := a }) rfl rfl
    rw [hgk] at s2 s3 hM4
    have hM2 : Hid (Tn B w fs p q ((U.setCell ⟨gk, 2, none⟩ (.int .i64 ((r.ct : Int) - 1))).setCell ⟨gk, 1, none⟩ (.int .i64 a)) q { M with gs := M.gs.set g { r with ct := r.ct - 1, pc := a } }) := Lib.hid (by have := (hMU.out.trans hM3.out).trans hM4.out; simpa only [List.set_set] using this)
    have hO2 : Hid (((U.setCell ⟨gk, 2, none⟩ (.int .i64 ((r.ct : Int) - 1))).setCell ⟨gk, 1, none⟩ (.int .i64 a)).heap[X]? = some (.cells #[.int .i64 0, .int .i64 0, .bool false] 59 (0, 0))) := Lib.hid ((Below.heap_setCell _ _ _ _ (fun e => hgX e.symm)).trans ((Below.heap_setCell _ _ _ _ (fun e => hgX e.symm)).trans hOU.out))
    have i1' : (U.setCell ⟨gk, 2, none⟩ (.int .i64 ((r.ct : Int) - 1))).cell? ⟨w.heap.size, 1, none⟩ = some (.int .i64 a) := by
      rw [World.cell?_of_block (a := ⟨w.heap.size, 1, none⟩) (w := U)]
      · exact i1
      · exact Below.heap_setCell _ _ _ _ (fun e => hgN e.symm)
    clear hM3 hM4 hMU hOU hbk hg3 hr3 e3 i0 i2 i3
    go_upto_region 5 with fail
    obtain ⟨W2, hW2⟩ : ∃ W2, (U.setCell ⟨gk, 2, none⟩ (.int .i64 ((r.ct : Int) - 1))).setCell ⟨gk, 1, none⟩ (.int .i64 a) = W2 := ⟨_, rfl⟩
    rw [hW2] at hM2 hO2 ⊢
    clear hW2 s0 s1 s2 s3 i1' d2 c2 cg i1
    have con := on_any (0) W2
    go_wp2_with fail
    with_reducible refine Calls.mono con ?_
    rintro e w3 ⟨rfl, hb3⟩
    obtain ⟨t0, t1, t2, f0, f1, f2, kX, hfin⟩ := (hM2.out.more hb3).told (v := 0) (ts := 1) (ft := false) ((hb3.block _ (block_lt hO2.out)).trans hO2.out) hX hn0.out
    clear hM2 hO2 con hb3
    unfold outV
    go_wp2_with fail
    refine bodyPost_ret (results_cell_row (by rfl) _ _ X 59 _ (0, 0) _ rfl kX Tryd.underlying59 rfl (by kernel_rfl)) rfl ?_
    exact ⟨rfl, _, hfin.out⟩
  · obtain rfl : M2 = M := by rw [hv.out, if_neg hct]
    clear hv
    have e1 : decide (0 < (r.ct : Int)) = false := decide_eq_false (by omega)
    have e2 : ¬ (0 : Int) < (r.ct : Int) := by omega
    have hM2 := hMU
    have hO2 := hOU
    clear hMU hOU hbk i0 i1 i2 i3
    have con := on_any (0) U
    go_wp2_with fail
    with_reducible refine Calls.mono con ?_
    rintro e w3 ⟨rfl, hb3⟩
    obtain ⟨t0, t1, t2, f0, f1, f2, kX, hfin⟩ := (hM2.out.more hb3).told (v := 0) (ts := 1) (ft := false) ((hb3.block _ (block_lt hO2.out)).trans hO2.out) hX hn0.out
    clear hM2 hO2 con hb3
    unfold outV
    go_wp2_with fail
    refine bodyPost_ret (results_cell_row (by rfl) _ _ X 59 _ (0, 0) _ rfl kX Tryd.underlying59 rfl (by kernel_rfl)) rfl ?_
    exact ⟨rfl, _, hfin.out⟩
set_option maxRecDepth 100000 in
theorem get_any (h : IsM B w fs p q M) (hg : g < M.gs.length) (hr : M.gs.getD g g0 = r) (hk : r.sk.length = 16) (x : Int) (ha : a < 16) (hL : b < M.gl.length) {y : Int} (hy : M.gl.getD b 0 = y) : Calls Tryd.prog 46 #[.pointer (some ⟨p, 0, none⟩), .int .i64 g, .agg #[.int .i64 x, .int .i64 a, .int .i64 b, .int .i64 c]] w (MR B w fs p q { M with gs := M.gs.set g { r with sk := r.sk.set a y } } 0 1 false) := by
  obtain ⟨kI, kO, hbU, sU⟩ := news w x a b c
  obtain ⟨U, hU⟩ : ∃ U, (w.alloc (insC x a b c)).alloc (outC 0 0 false) = U := ⟨_, rfl⟩
  rw [hU] at kI kO hbU sU
  have hM := h.below hbU
  obtain ⟨gb, go, cap, c2, cg, hbk⟩ := hM.find hg hr
  have i0 : U.cell? ⟨w.heap.size, 0, none⟩ = some (.int .i64 x) := cell_of kI rfl
  have i1 : U.cell? ⟨w.heap.size, 1, none⟩ = some (.int .i64 a) := cell_of kI rfl
  have i2 : U.cell? ⟨w.heap.size, 2, none⟩ = some (.int .i64 b) := cell_of kI rfl
  have i3 : U.cell? ⟨w.heap.size, 3, none⟩ = some (.int .i64 c) := cell_of kI rfl
  have hn0 : Hid (∀ i k, i < 8 → hm p q i k → k ≠ w.heap.size + 1) := Lib.hid fun i k hi hk => by have := (h.ap.low i k hi hk).2; omega
  have hX : w.heap.size ≤ w.heap.size + 1 := by omega
  have g0' : (0 : Int) ≤ (g : Int) := by omega
  have g1 : (g : Int) < (M.gs.length : Int) := by omega
  have a0 : (0 : Int) ≤ (a : Int) := by omega
  have b0 : (0 : Int) ≤ (b : Int) := by omega
  have hUlt : w.heap.size + 1 < U.heap.size := by omega
  have a1 : (a : Int) < 16 := by omega
  have hMd : Hid (Tn B w fs p q U.drew q M) := Lib.hid (tn_below h hbU.drew)
  have hO : Hid (U.drew.heap[w.heap.size + 1]? = some (.cells #[.int .i64 0, .int .i64 0, .bool false] 59 (0, 0))) := Lib.hid kO
  have hMU : Hid (Tn B w fs p q U q M) := Lib.hid (tn_below h hbU)
  have hOU := Lib.hid kO
  clear h hM kI kO hbU
  go_enter Tryd.func46, Tryd.ntmps46
  go_upto_region 1 with fail
  have hU : (w.alloc (.cells #[.int .i64 x, .int .i64 a, .int .i64 b, .int .i64 c] 26)).alloc (.cells #[.int .i64 0, .int .i64 0, .bool false] 59) = U := hU
  rw [hU]
  clear hU
  obtain ⟨X, hXe⟩ : ∃ X, w.heap.size + 1 = X := ⟨_, rfl⟩
  rw [hXe] at hn0 hX hO hOU hUlt ⊢
  obtain ⟨gk, hgk⟩ : ∃ k, q.bs.getD g 0 = k := ⟨_, rfl⟩
  have hgX : gk ≠ X := hn0.out 4 gk (by omega) (.inr (hgk ▸ bs_in hMd.out.is.p4.len hg))
  rw [hgk] at cg hbk
  obtain ⟨lb, lo, cl, c7, cv, -, -⟩ := hMU.out.is.findL hL
  rw [hy] at cv
  clear hy
  have b2 : (b : Int) < (M.gl.length : Int) := by omega
  go_still_tail 20, (by kernel_rfl)
  change wpList _ _ _ _ _ U.drew
  obtain ⟨W1, hW1⟩ : ∃ W1, U.drew = W1 := ⟨_, rfl⟩
  rw [hW1] at hMd hO ⊢
  clear hW1
  clear c7 cv c2 cg i0 i1 i2 i3 hbk hUlt hXe sU
  obtain ⟨s0, s1, hM2⟩ := hMd.out.is.storeK hg hr (a := a) (by omega) y
  rw [hgk] at s0 s1 hM2
  have hM2 := Lib.hid (hMd.out.trans hM2.out)
  have hO2 : Hid ((W1.setCell ⟨gk, 3 + a, none⟩ (.int .i64 y)).heap[X]? = some (.cells #[.int .i64 0, .int .i64 0, .bool false] 59 (0, 0))) := Lib.hid ((Below.heap_setCell _ _ _ _ (fun e => hgX e.symm)).trans hO.out)
  clear hO hMd hMU hOU
  go_upto_region 2 with fail
  obtain ⟨W2, hW2⟩ : ∃ W2, W1.setCell ⟨gk, 3 + a, none⟩ (.int .i64 y) = W2 := ⟨_, rfl⟩
  rw [hW2] at hM2 hO2 ⊢
  clear hW2 s0 s1
  have con := on_any (0) W2
  go_wp2_with fail
  with_reducible refine Calls.mono con ?_
  rintro e w3 ⟨rfl, hb3⟩
  obtain ⟨t0, t1, t2, f0, f1, f2, kX, hfin⟩ := (hM2.out.more hb3).told (v := 0) (ts := 1) (ft := false) ((hb3.block _ (block_lt hO2.out)).trans hO2.out) hX hn0.out
  clear hM2 hO2 con hb3
  unfold outV
  go_wp2_with fail
  refine bodyPost_ret (results_cell_row (by rfl) _ _ X 59 _ (0, 0) _ rfl kX Tryd.underlying59 rfl (by kernel_rfl)) rfl ?_
  exact ⟨rfl, _, hfin.out⟩
set_option maxRecDepth 100000 in
theorem put_any (h : IsM B w fs p q M) (hg : g < M.gs.length) (hr : M.gs.getD g g0 = r) (hk : r.sk.length = 16) (x : Int) (hL : a < M.gl.length) (hb : b < 16) {y : Int} (hy : r.sk.getD b 0 = y) : Calls Tryd.prog 47 #[.pointer (some ⟨p, 0, none⟩), .int .i64 g, .agg #[.int .i64 x, .int .i64 a, .int .i64 b, .int .i64 c]] w (MR B w fs p q { M with gl := M.gl.set a y } 0 1 false) := by
  obtain ⟨kI, kO, hbU, sU⟩ := news w x a b c
  obtain ⟨U, hU⟩ : ∃ U, (w.alloc (insC x a b c)).alloc (outC 0 0 false) = U := ⟨_, rfl⟩
  rw [hU] at kI kO hbU sU
  have hM := h.below hbU
  obtain ⟨gb, go, cap, c2, cg, hbk⟩ := hM.find hg hr
  have i0 : U.cell? ⟨w.heap.size, 0, none⟩ = some (.int .i64 x) := cell_of kI rfl
  have i1 : U.cell? ⟨w.heap.size, 1, none⟩ = some (.int .i64 a) := cell_of kI rfl
  have i2 : U.cell? ⟨w.heap.size, 2, none⟩ = some (.int .i64 b) := cell_of kI rfl
  have i3 : U.cell? ⟨w.heap.size, 3, none⟩ = some (.int .i64 c) := cell_of kI rfl
  have hn0 : Hid (∀ i k, i < 8 → hm p q i k → k ≠ w.heap.size + 1) := Lib.hid fun i k hi hk => by have := (h.ap.low i k hi hk).2; omega
  have hX : w.heap.size ≤ w.heap.size + 1 := by omega
  have g0' : (0 : Int) ≤ (g : Int) := by omega
  have g1 : (g : Int) < (M.gs.length : Int) := by omega
  have a0 : (0 : Int) ≤ (a : Int) := by omega
  have b0 : (0 : Int) ≤ (b : Int) := by omega
  have hUlt : w.heap.size + 1 < U.heap.size := by omega
  have b1 : (b : Int) < 16 := by omega
  have hMd : Hid (Tn B w fs p q U.drew q M) := Lib.hid (tn_below h hbU.drew)
  have hO : Hid (U.drew.heap[w.heap.size + 1]? = some (.cells #[.int .i64 0, .int .i64 0, .bool false] 59 (0, 0))) := Lib.hid kO
  have hMU : Hid (Tn B w fs p q U q M) := Lib.hid (tn_below h hbU)
  have hOU := Lib.hid kO
  clear h hM kI kO hbU
  go_enter Tryd.func47, Tryd.ntmps47
  go_upto_region 1 with fail
  have hU : (w.alloc (.cells #[.int .i64 x, .int .i64 a, .int .i64 b, .int .i64 c] 26)).alloc (.cells #[.int .i64 0, .int .i64 0, .bool false] 59) = U := hU
  rw [hU]
  clear hU
  obtain ⟨X, hXe⟩ : ∃ X, w.heap.size + 1 = X := ⟨_, rfl⟩
  rw [hXe] at hn0 hX hO hOU hUlt ⊢
  obtain ⟨gk, hgk⟩ : ∃ k, q.bs.getD g 0 = k := ⟨_, rfl⟩
  have hgX : gk ≠ X := hn0.out 4 gk (by omega) (.inr (hgk ▸ bs_in hMd.out.is.p4.len hg))
  rw [hgk] at cg hbk
  have vb := cell_of hbk (gcl_at r (a := b) (by omega))
  rw [hy] at vb
  clear hy
  obtain ⟨lb, lo, cl, c7, cv, cf, hst⟩ := hMd.out.is.findL hL
  have c7' : U.cell? ⟨p, 7, none⟩ = some (.slice (some ⟨lb, lo, none⟩) M.gl.length cl) := c7
  have hlX : lb ≠ X := hn0.out 6 lb (by omega) (by
    have e : U.drew.cell? ⟨p, 7, none⟩ = some q.glv := cell_of hMd.out.is.p0 rfl
    rw [c7] at e
    have e2 := Option.some.inj e
    show q.glv.ownBlock = some lb
    rw [← e2]; rfl)
  have a2 : (a : Int) < (M.gl.length : Int) := by omega
  have hst := hst y
  clear c7
  go_still_tail 20, (by kernel_rfl)
  change wpList _ _ _ _ _ U.drew
  obtain ⟨W1, hW1⟩ : ∃ W1, U.drew = W1 := ⟨_, rfl⟩
  rw [hW1] at hst hO cv cf hMd ⊢
  clear hW1 c2 cg i0 i1 i2 i3 hbk hUlt hXe sU vb c7' hMU hOU
  have hM2 := Lib.hid (hMd.out.trans hst.out)
  clear hMd
  have hO2 : Hid ((W1.setCell ⟨lb, lo + a, none⟩ (.int .i64 y)).heap[X]? = some (.cells #[.int .i64 0, .int .i64 0, .bool false] 59 (0, 0))) := Lib.hid ((Below.heap_setCell _ _ _ _ (fun e => hlX e.symm)).trans hO.out)
  clear hst hO
  go_upto_region 2 with fail
  obtain ⟨W2, hW2⟩ : ∃ W2, W1.setCell ⟨lb, lo + a, none⟩ (.int .i64 y) = W2 := ⟨_, rfl⟩
  rw [hW2] at hM2 hO2 ⊢
  clear hW2 cv cf
  have con := on_any (0) W2
  go_wp2_with fail
  with_reducible refine Calls.mono con ?_
  rintro e w3 ⟨rfl, hb3⟩
  obtain ⟨t0, t1, t2, f0, f1, f2, kX, hfin⟩ := (hM2.out.more hb3).told (v := 0) (ts := 1) (ft := false) ((hb3.block _ (block_lt hO2.out)).trans hO2.out) hX hn0.out
  clear hM2 hO2 con hb3
  unfold outV
  go_wp2_with fail
  refine bodyPost_ret (results_cell_row (by rfl) _ _ X 59 _ (0, 0) _ rfl kX Tryd.underlying59 rfl (by kernel_rfl)) rfl ?_
  exact ⟨rfl, _, hfin.out⟩
end Md
end Go.Proofs.YtdhkakjiahkjnaaDoor
/- The model: objects' slots, loads and stores. -/
namespace Go.Proofs.YtdhkakjiahkjnaaDoor
open Go.RowKit Go.Lib Fx Ho Gr
set_option linter.unusedVariables false
namespace Md
open Cd (Ins zi ca c4)
variable {B w w' : World} {fs : List (List Ins)} {p : Nat} {q : Pl} {M : Mo} {H H' : Home} {g a b c n i : Nat} {r : Gor}
/-- Where an object's slots are found. -/
theorem IsM.findO (h : IsM B w fs p q M) {id : Nat} (h1 : 1 ≤ id) (h2 : id ≤ M.ob.length) : ∃ tb tp cap ao l c2, w.cell? ⟨p, 8, none⟩ = some (.slice (some ⟨tb, tp, none⟩) M.ob.length cap) ∧ w.cell? ⟨tb, tp + (id - 1), none⟩ = some (.slice ao l c2) ∧ l = (M.ob.getD (id - 1) []).length ∧ l ≤ 9223372036854775807 ∧ q.os.getD (id - 1) .nilFunc = .slice ao l c2 ∧ ∀ i, i < l → ∃ xb xo, ao = some ⟨xb, xo, none⟩ ∧ w.cell? ⟨xb, xo + i, none⟩ = some (.int .i64 ((M.ob.getD (id - 1) []).getD i 0)) ∧ w.frozen? ⟨xb, xo + i, none⟩ = false ∧ (q.os.getD (id - 1) .nilFunc).ownBlock = some xb := by
  obtain ⟨ao, tb, tp, cap, e, hle, hm, hc, hcell⟩ := h.p5.row.cell
  obtain ⟨rfl, _, _⟩ := hc (by omega)
  have hl := h.p5.len
  obtain ⟨ax, xb, xo, cx, ex, hlx, hmx, hcx, hcellx⟩ := (h.p5.cel (id - 1) (by omega)).cell
  refine ⟨tb, tp, cap, ax, _, cx, by rw [← e]; exact cell_of h.p0 rfl, ?_, rfl, by unfold maxLen at hmx; omega, ex, fun i hi => ?_⟩
  · rw [← ex]
    exact (hcell (id - 1) _ (by rw [List.getElem?_eq_getElem (by omega), List.getD_eq_getElem?_getD, List.getElem?_eq_getElem (by omega)]; rfl)).1
  · obtain ⟨rfl, _, ho⟩ := hcx (by omega)
    have k := hcellx i (.int .i64 ((M.ob.getD (id - 1) []).getD i 0)) (by unfold cells; rw [List.getElem?_map, List.getElem?_eq_getElem hi, List.getD_eq_getElem?_getD (l := M.ob.getD (id - 1) []), List.getElem?_eq_getElem hi]; rfl)
    exact ⟨xb, xo, rfl, k.1, k.2, by first | exact ho | (rw [ex]; rfl)⟩
/-- A slot of an object has turned. -/
theorem IsM.setO (h : IsM B w fs p q M) {j : Nat} (hj : j < M.ob.length) {xb xo l cap : Nat} (e : q.os.getD j .nilFunc = .slice (some ⟨xb, xo, none⟩) l cap) (hl : l = (M.ob.getD j []).length) (hi : i < l) (v : Int) : IsM B (w.setCell ⟨xb, xo + i, none⟩ (.int .i64 v)) fs p q { M with ob := M.ob.set j ((M.ob.getD j []).set i v) } := by
  have hown : (q.os.getD j .nilFunc).ownBlock = some xb := by rw [e]; rfl
  have hw : Wrote (fun k => k = xb) w (fun k => k = xb) (w.setCell ⟨xb, xo + i, none⟩ (.int .i64 v)) := wrote_setCell (a := ⟨xb, xo + i, none⟩) rfl rfl rfl rfl rfl
  have hin : hm p q 5 xb := .inr ⟨j, by rw [h.p5.len]; exact hj, hown⟩
  have hH : ∀ k, k = xb → ∃ i, i < 8 ∧ i = 5 ∧ hm p q i k := fun k e => ⟨5, by omega, rfl, e ▸ hin⟩
  have no := fun j hj hI => h.rest (H := fun k => k = xb) (fun i => i = 5) hH (j := j) hj hI
  refine ⟨h.p0.wrote hw (no 0 (by omega) (by omega)), h.p1.wrote hw (no 1 (by omega) (by omega)), h.p2.wrote hw (no 2 (by omega) (by omega)), h.p3.wrote hw (no 3 (by omega) (by omega)), h.p4.wrote hw (no 4 (by omega) (by omega)), ⟨?_, ?_, fun t ht => ?_, fun t s k ht hs => ?_, fun t k ht => ?_⟩, h.p6.wrote hw (no 6 (by omega) (by omega)), h.p7.wrote hw (no 7 (by omega) (by omega)), h.ap.more hw.size, h.belowW hw (fun k e => ⟨5, by omega, e ▸ hin⟩)⟩
  · show q.os.length = (M.ob.set j _).length
    rw [List.length_set]; exact h.p5.len
  · show GRow 1 _ q.obv (M.ob.set j _).length q.os
    rw [List.length_set]
    exact h.p5.row.wrote hw (fun k hk e2 => h.p5.off j xb hj hown (by rw [hk, e2]))
  · have ht : t < M.ob.length := by simpa using ht
    show GRow 1 _ (q.os.getD t .nilFunc) ((M.ob.set j _).getD t []).length (cells ((M.ob.set j _).getD t []))
    rw [List.getD_eq_getElem?_getD (l := M.ob.set j _)]
    by_cases et : t = j
    · subst et
      rw [List.getElem?_set_self hj]
      show GRow 1 _ _ ((M.ob.getD t []).set i v).length (cells ((M.ob.getD t []).set i v))
      rw [List.length_set, ← cells_set]
      have hx := h.p5.cel t hj
      rw [e] at hx ⊢
      rw [← hl] at hx ⊢
      exact hx.set (by omega)
    · rw [List.getElem?_set_ne (fun e' => et e'.symm), ← List.getD_eq_getElem?_getD]
      exact (h.p5.cel t ht).wrote hw (fun k hk e2 => et (h.p5.nd t j xb ht hj (by rw [hk, e2]) hown))
  · exact h.p5.nd t s k (by simpa using ht) (by simpa using hs)
  · exact h.p5.off t k (by simpa using ht)
/-- The slot, if there is one. -/
def slotOf (M : Mo) (id : Int) (i : Nat) : Option Int := if id = 0 then none else (M.ob.getD (id.toNat - 1) [])[i]?
/-- What slot answers. -/
def SlotR (w : World) (p : Nat) (q : Pl) (M : Mo) (y : Int) (id i : Nat) (e : Ending) (w' : World) : Prop := w = w' ∧ ((e = .returned (.pointer none) ∧ slotOf M y i = none) ∨ (∃ l cap xb xo v, e = .returned (.pointer (some ⟨xb, xo + i, none⟩)) ∧ slotOf M y i = some v ∧ 1 ≤ id ∧ q.os.getD (id - 1) .nilFunc = .slice (some ⟨xb, xo, none⟩) l cap ∧ l = (M.ob.getD (id - 1) []).length ∧ i < l ∧ w.cell? ⟨xb, xo + i, none⟩ = some (.int .i64 v) ∧ w.frozen? ⟨xb, xo + i, none⟩ = false ∧ hm p q 5 xb))
set_option maxRecDepth 100000 in
theorem slot_any (h : IsM B w fs p q M) {y : Int} {id : Nat} (hy : y = (id : Int)) (h2 : id ≤ M.ob.length) (hob : M.ob.length ≤ 1000000) (i : Nat) (i9 : i ≤ 1000) : Calls Tryd.prog 64 #[.pointer (some ⟨p, 0, none⟩), .int .i64 y, .int .i64 i] w (SlotR w p q M y id i) := by
  have i0 : (0 : Int) ≤ (i : Int) := by omega
  by_cases hid : y = 0
  · subst hid
    have hs : Hid (slotOf M 0 i = none) := Lib.hid rfl
    clear h h2 hy
    go_enter Tryd.func64, Tryd.ntmps64
    go_wp2_with fail
    go_ret
    exact ⟨rfl, .inl ⟨rfl, hs.out⟩⟩
  have h1 : 1 ≤ id := by omega
  obtain ⟨tb, tp, cap, ao, l, c2, c8, ct, hl, hl9, eo, hat⟩ := h.findO h1 h2
  have hs0 : slotOf M y i = (M.ob.getD (id - 1) [])[i]? := by
    unfold slotOf
    rw [if_neg hid, hy, Int.toNat_natCast]
  obtain ⟨j, rfl⟩ : ∃ j, id = j + 1 := ⟨id - 1, by omega⟩
  rw [Nat.add_sub_cancel] at ct hl eo hat hs0
  have z2 : (y == 0) = false := beq_eq_false_iff_ne.2 hid
  have z2' : decide (y = 0) = false := decide_eq_false hid
  have z3 : IntKind.i64.wrap (y - 1) = (j : Int) := by rw [IntKind.wrap_i64]; omega
  have z4 : y - 1 = (j : Int) := by omega
  have j0 : (0 : Int) ≤ (j : Int) := by omega
  have j1 : (j : Int) < (M.ob.length : Int) := by omega
  have hown : Hid (∀ xb, (q.os.getD j .nilFunc).ownBlock = some xb → hm p q 5 xb) := Lib.hid fun xb e => .inr ⟨j, by rw [h.p5.len]; omega, e⟩
  replace eo := Lib.hid eo
  replace hl := Lib.hid hl
  replace hs0 := Lib.hid hs0
  clear h hy
  by_cases hil : l ≤ i
  · have e1 : decide ((l : Int) ≤ (i : Int)) = true := decide_eq_true (by omega)
    have e2 : (l : Int) ≤ (i : Int) := by omega
    have hsn : Hid (slotOf M y i = none) := Lib.hid (by rw [hs0.out]; exact List.getElem?_eq_none (by have := hl.out; omega))
    clear hat hs0
    go_enter Tryd.func64, Tryd.ntmps64
    go_wp2_with fail
    go_ret
    exact ⟨rfl, .inl ⟨rfl, hsn.out⟩⟩
  · have e1 : decide ((l : Int) ≤ (i : Int)) = false := decide_eq_false (by omega)
    have e2 : ¬ (l : Int) ≤ (i : Int) := by omega
    have e3 : (i : Int) < (l : Int) := by omega
    obtain ⟨xb, xo, rfl, k1, k2, ho⟩ := hat i (by omega)
    have hsv : Hid (slotOf M y i = some ((M.ob.getD j []).getD i 0)) := Lib.hid (by rw [hs0.out, List.getElem?_eq_getElem (by have := hl.out; omega), List.getD_eq_getElem?_getD (l := M.ob.getD j []), List.getElem?_eq_getElem (by have := hl.out; omega)]; rfl)
    have hfin : Hid (w.cell? ⟨xb, xo + i, none⟩ = some (.int .i64 ((M.ob.getD j []).getD i 0)) ∧ w.frozen? ⟨xb, xo + i, none⟩ = false ∧ hm p q 5 xb) := Lib.hid ⟨k1, k2, hown.out xb ho⟩
    clear hat hs0 hown k1 k2 ho
    go_enter Tryd.func64, Tryd.ntmps64
    go_wp2_with fail
    go_ret
    exact ⟨rfl, .inr ⟨l, c2, xb, xo, _, rfl, hsv.out, by omega, by rw [Nat.add_sub_cancel]; exact eo.out, by rw [Nat.add_sub_cancel]; exact hl.out, by omega, hfin.out⟩⟩
set_option maxRecDepth 100000 in
theorem load_any (h : IsM B w fs p q M) (hg : g < M.gs.length) (hr : M.gs.getD g g0 = r) (hk : r.sk.length = 16) (x : Int) (ha : a < 16) (hb : b < 16) (hc : c < 1000) {y : Int} (hy : r.sk.getD b 0 = y) {id : Nat} (hyid : y = (id : Int)) (hid : id ≤ M.ob.length) (hob : M.ob.length ≤ 1000000) {M2 : Mo} {v ts : Int} {ft : Bool} (hv : Hid ((M2, v, ts, ft) = match slotOf M y c with | none => (M, (0 : Int), (5 : Int), true) | some z => ({ M with gs := M.gs.set g { r with sk := r.sk.set a z } }, z, 1, false))) : Calls Tryd.prog 42 #[.pointer (some ⟨p, 0, none⟩), .int .i64 g, .agg #[.int .i64 x, .int .i64 a, .int .i64 b, .int .i64 c]] w (MR B w fs p q M2 v ts ft) := by
  obtain ⟨kI, kO, hbU, sU⟩ := news w x a b c
  obtain ⟨U, hU⟩ : ∃ U, (w.alloc (insC x a b c)).alloc (outC 0 0 false) = U := ⟨_, rfl⟩
  rw [hU] at kI kO hbU sU
  have hM := h.below hbU
  obtain ⟨gb, go, cap, c2, cg, hbk⟩ := hM.find hg hr
  have i0 : U.cell? ⟨w.heap.size, 0, none⟩ = some (.int .i64 x) := cell_of kI rfl
  have i1 : U.cell? ⟨w.heap.size, 1, none⟩ = some (.int .i64 a) := cell_of kI rfl
  have i2 : U.cell? ⟨w.heap.size, 2, none⟩ = some (.int .i64 b) := cell_of kI rfl
  have i3 : U.cell? ⟨w.heap.size, 3, none⟩ = some (.int .i64 c) := cell_of kI rfl
  have hn0 : Hid (∀ i k, i < 8 → hm p q i k → k ≠ w.heap.size + 1) := Lib.hid fun i k hi hk => by have := (h.ap.low i k hi hk).2; omega
  have hX : w.heap.size ≤ w.heap.size + 1 := by omega
  have g0' : (0 : Int) ≤ (g : Int) := by omega
  have g1 : (g : Int) < (M.gs.length : Int) := by omega
  have a0 : (0 : Int) ≤ (a : Int) := by omega
  have b0 : (0 : Int) ≤ (b : Int) := by omega
  have hUlt : w.heap.size + 1 < U.heap.size := by omega
  have a1 : (a : Int) < 16 := by omega
  have b1 : (b : Int) < 16 := by omega
  have hMd : Hid (Tn B w fs p q U.drew q M) := Lib.hid (tn_below h hbU.drew)
  have hO : Hid (U.drew.heap[w.heap.size + 1]? = some (.cells #[.int .i64 0, .int .i64 0, .bool false] 59 (0, 0))) := Lib.hid kO
  have hMU : Hid (Tn B w fs p q U q M) := Lib.hid (tn_below h hbU)
  have hOU := Lib.hid kO
  clear h hM kI kO hbU
  go_enter Tryd.func42, Tryd.ntmps42
  go_upto_region 1 with fail
  have hU : (w.alloc (.cells #[.int .i64 x, .int .i64 a, .int .i64 b, .int .i64 c] 26)).alloc (.cells #[.int .i64 0, .int .i64 0, .bool false] 59) = U := hU
  rw [hU]
  clear hU
  obtain ⟨X, hXe⟩ : ∃ X, w.heap.size + 1 = X := ⟨_, rfl⟩
  rw [hXe] at hn0 hX hO hOU hUlt ⊢
  obtain ⟨gk, hgk⟩ : ∃ k, q.bs.getD g 0 = k := ⟨_, rfl⟩
  have hgX : gk ≠ X := hn0.out 4 gk (by omega) (.inr (hgk ▸ bs_in hMd.out.is.p4.len hg))
  rw [hgk] at cg hbk
  replace hyid := Lib.hid hyid
  have vy : U.cell? ⟨gk, 3 + b, none⟩ = some (.int .i64 y) := by rw [← hy]; exact cell_of hbk (gcl_at r (a := b) (by omega))
  clear hy
  have i1d : U.drew.cell? ⟨w.heap.size, 1, none⟩ = some (.int .i64 a) := i1
  have i3d : U.drew.cell? ⟨w.heap.size, 3, none⟩ = some (.int .i64 c) := i3
  have c0 : (0 : Int) ≤ (c : Int) := by omega
  go_still_tail 16, (by kernel_rfl)
  change wpList _ _ _ _ _ U.drew
  obtain ⟨W1, hW1⟩ : ∃ WW, U.drew = WW := ⟨_, rfl⟩
  rw [hW1] at hMd hO i1d i3d ⊢
  clear hW1
  clear c2 cg i0 i1 i2 i3 hbk hUlt sU vy hMU hOU
  have cs := slot_any hMd.out.is hyid.out hid hob c (by omega)
  go_wp2_with fail
  with_reducible refine Calls.mono cs ?_
  rintro e wq ⟨rfl, hq⟩
  clear cs
  rcases hq with ⟨rfl, hs⟩ | ⟨l, cap2, xb, xo, v0, rfl, hs, h1id, eo, hlo, hil, sc, sf, hxb⟩
  · obtain ⟨rfl, rfl, rfl, rfl⟩ : M2 = M ∧ v = 0 ∧ ts = 5 ∧ ft = true := by
      have := hv.out
      rw [hs] at this
      cases this
      exact ⟨rfl, rfl, rfl, rfl⟩
    have hM2 := hMd
    have hO2 := hO
    clear hMd hO i1d i3d hv
    have con := fault_any W1
    go_wp2_with fail
    with_reducible refine Calls.mono con ?_
    rintro e w3 ⟨rfl, hb3⟩
    obtain ⟨t0, t1, t2, f0, f1, f2, kX, hfin⟩ := (hM2.out.more hb3).told (v := 0) (ts := 5) (ft := true) ((hb3.block _ (block_lt hO2.out)).trans hO2.out) hX hn0.out
    clear hM2 hO2 con hb3
    unfold outV
    go_wp2_with fail
    refine bodyPost_ret (results_cell_row (by rfl) _ _ X 59 _ (0, 0) _ rfl kX Tryd.underlying59 rfl (by kernel_rfl)) rfl ?_
    exact ⟨rfl, _, hfin.out⟩
  · obtain ⟨rfl, rfl, rfl, rfl⟩ : M2 = { M with gs := M.gs.set g { r with sk := r.sk.set a v0 } } ∧ v0 = v ∧ ts = 1 ∧ ft = false := by
      have := hv.out
      rw [hs] at this
      cases this
      exact ⟨rfl, rfl, rfl, rfl⟩
    clear hv
    obtain ⟨gb, go, cap, c2, cg, hbk⟩ := hMd.out.is.find hg hr
    rw [hgk] at cg hbk
    have hgx : gk ≠ xb := fun e => by
      have := hMd.out.is.ap.off 4 5 gk (by omega) (by omega) (.inr (hgk ▸ bs_in hMd.out.is.p4.len hg)) (e ▸ hxb)
      omega
    have hxX : xb ≠ X := hn0.out 5 xb (by omega) hxb
    have hMe := Lib.hid (hMd.out.more (Below.refl _ _).drew)
    have hOe : Hid (W1.drew.heap[X]? = some (.cells #[.int .i64 0, .int .i64 0, .bool false] 59 (0, 0))) := Lib.hid hO.out
    have scd : W1.drew.cell? ⟨xb, xo + c, none⟩ = some (.int .i64 v0) := sc
    clear hMd hO
    go_upto_region 4 with fail
    go_still_tail 15, (by kernel_rfl)
    change wpList _ _ _ _ _ W1.drew
    obtain ⟨W2, hW1⟩ : ∃ WW, W1.drew = WW := ⟨_, rfl⟩
    rw [hW1] at hMe hOe scd ⊢
    clear hW1
    obtain ⟨s0, s1, hM2⟩ := hMe.out.is.storeK hg hr (a := a) (by omega) v0
    rw [hgk] at s0 s1 hM2
    have hM2 := Lib.hid (hMe.out.trans hM2.out)
    have hO2 : Hid ((W2.setCell ⟨gk, 3 + a, none⟩ (.int .i64 v0)).heap[X]? = some (.cells #[.int .i64 0, .int .i64 0, .bool false] 59 (0, 0))) := Lib.hid ((Below.heap_setCell _ _ _ _ (fun e => hgX e.symm)).trans hOe.out)
    have scf : (W2.setCell ⟨gk, 3 + a, none⟩ (.int .i64 v0)).cell? ⟨xb, xo + c, none⟩ = some (.int .i64 v0) := by
      rw [World.cell?_of_block (a := ⟨xb, xo + c, none⟩) (w := W2)]
      · exact scd
      · exact Below.heap_setCell _ _ _ _ (fun e => hgx e.symm)
    clear hMe hOe c2 cg hbk i1d i3d sc sf scd
    go_upto_region 5 with fail
    obtain ⟨W3, hW3⟩ : ∃ W3, W2.setCell ⟨gk, 3 + a, none⟩ (.int .i64 v0) = W3 := ⟨_, rfl⟩
    rw [hW3] at hM2 hO2 scf ⊢
    clear hW3 s0 s1
    have con := on_any (v0) W3
    go_wp2_with fail
    with_reducible refine Calls.mono con ?_
    rintro e w3 ⟨rfl, hb3⟩
    obtain ⟨t0, t1, t2, f0, f1, f2, kX, hfin⟩ := (hM2.out.more hb3).told (v := v0) (ts := 1) (ft := false) ((hb3.block _ (block_lt hO2.out)).trans hO2.out) hX hn0.out
    clear hM2 hO2 con hb3
    unfold outV
    go_wp2_with fail
    refine bodyPost_ret (results_cell_row (by rfl) _ _ X 59 _ (0, 0) _ rfl kX Tryd.underlying59 rfl (by kernel_rfl)) rfl ?_
    exact ⟨rfl, _, hfin.out⟩
set_option maxRecDepth 100000 in
theorem store_any (h : IsM B w fs p q M) (hg : g < M.gs.length) (hr : M.gs.getD g g0 = r) (hk : r.sk.length = 16) (x : Int) (ha : a < 16) (hb : b < 1000) (hc : c < 16) {y z : Int} (hy : r.sk.getD a 0 = y) (hz : r.sk.getD c 0 = z) {id : Nat} (hyid : y = (id : Int)) (hid : id ≤ M.ob.length) (hob : M.ob.length ≤ 1000000) {M2 : Mo} {v ts : Int} {ft : Bool} (hv : Hid ((M2, v, ts, ft) = match slotOf M y b with | none => (M, (0 : Int), (5 : Int), true) | some _ => ({ M with ob := M.ob.set (id - 1) ((M.ob.getD (id - 1) []).set b z) }, 0, 1, false))) : Calls Tryd.prog 43 #[.pointer (some ⟨p, 0, none⟩), .int .i64 g, .agg #[.int .i64 x, .int .i64 a, .int .i64 b, .int .i64 c]] w (MR B w fs p q M2 v ts ft) := by
  obtain ⟨kI, kO, hbU, sU⟩ := news w x a b c
  obtain ⟨U, hU⟩ : ∃ U, (w.alloc (insC x a b c)).alloc (outC 0 0 false) = U := ⟨_, rfl⟩
  rw [hU] at kI kO hbU sU
  have hM := h.below hbU
  obtain ⟨gb, go, cap, c2, cg, hbk⟩ := hM.find hg hr
  have i0 : U.cell? ⟨w.heap.size, 0, none⟩ = some (.int .i64 x) := cell_of kI rfl
  have i1 : U.cell? ⟨w.heap.size, 1, none⟩ = some (.int .i64 a) := cell_of kI rfl
  have i2 : U.cell? ⟨w.heap.size, 2, none⟩ = some (.int .i64 b) := cell_of kI rfl
  have i3 : U.cell? ⟨w.heap.size, 3, none⟩ = some (.int .i64 c) := cell_of kI rfl
  have hn0 : Hid (∀ i k, i < 8 → hm p q i k → k ≠ w.heap.size + 1) := Lib.hid fun i k hi hk => by have := (h.ap.low i k hi hk).2; omega
  have hX : w.heap.size ≤ w.heap.size + 1 := by omega
  have g0' : (0 : Int) ≤ (g : Int) := by omega
  have g1 : (g : Int) < (M.gs.length : Int) := by omega
  have a0 : (0 : Int) ≤ (a : Int) := by omega
  have b0 : (0 : Int) ≤ (b : Int) := by omega
  have hUlt : w.heap.size + 1 < U.heap.size := by omega
  have a1 : (a : Int) < 16 := by omega
  have c1 : (c : Int) < 16 := by omega
  have hMd : Hid (Tn B w fs p q U.drew q M) := Lib.hid (tn_below h hbU.drew)
  have hO : Hid (U.drew.heap[w.heap.size + 1]? = some (.cells #[.int .i64 0, .int .i64 0, .bool false] 59 (0, 0))) := Lib.hid kO
  have hMU : Hid (Tn B w fs p q U q M) := Lib.hid (tn_below h hbU)
  have hOU := Lib.hid kO
  clear h hM kI kO hbU
  go_enter Tryd.func43, Tryd.ntmps43
  go_upto_region 1 with fail
  have hU : (w.alloc (.cells #[.int .i64 x, .int .i64 a, .int .i64 b, .int .i64 c] 26)).alloc (.cells #[.int .i64 0, .int .i64 0, .bool false] 59) = U := hU
  rw [hU]
  clear hU
  obtain ⟨X, hXe⟩ : ∃ X, w.heap.size + 1 = X := ⟨_, rfl⟩
  rw [hXe] at hn0 hX hO hOU hUlt ⊢
  obtain ⟨gk, hgk⟩ : ∃ k, q.bs.getD g 0 = k := ⟨_, rfl⟩
  have hgX : gk ≠ X := hn0.out 4 gk (by omega) (.inr (hgk ▸ bs_in hMd.out.is.p4.len hg))
  rw [hgk] at cg hbk
  replace hyid := Lib.hid hyid
  have vy : U.cell? ⟨gk, 3 + a, none⟩ = some (.int .i64 y) := by rw [← hy]; exact cell_of hbk (gcl_at r (a := a) (by omega))
  clear hy
  have i1d : U.drew.cell? ⟨w.heap.size, 1, none⟩ = some (.int .i64 a) := i1
  have i3d : U.drew.cell? ⟨w.heap.size, 3, none⟩ = some (.int .i64 c) := i3
  have c0 : (0 : Int) ≤ (c : Int) := by omega
  go_still_tail 16, (by kernel_rfl)
  change wpList _ _ _ _ _ U.drew
  obtain ⟨W1, hW1⟩ : ∃ WW, U.drew = WW := ⟨_, rfl⟩
  rw [hW1] at hMd hO i1d i3d ⊢
  clear hW1
  clear c2 cg i0 i1 i2 i3 hbk hUlt sU vy hMU hOU
  have cs := slot_any hMd.out.is hyid.out hid hob b (by omega)
  go_wp2_with fail
  with_reducible refine Calls.mono cs ?_
  rintro e wq ⟨rfl, hq⟩
  clear cs
  rcases hq with ⟨rfl, hs⟩ | ⟨l, cap2, xb, xo, v0, rfl, hs, h1id, eo, hlo, hil, sc, sf, hxb⟩
  · obtain ⟨rfl, rfl, rfl, rfl⟩ : M2 = M ∧ v = 0 ∧ ts = 5 ∧ ft = true := by
      have := hv.out
      rw [hs] at this
      cases this
      exact ⟨rfl, rfl, rfl, rfl⟩
    have hM2 := hMd
    have hO2 := hO
    clear hMd hO i1d i3d hv
    have con := fault_any W1
    go_wp2_with fail
    with_reducible refine Calls.mono con ?_
    rintro e w3 ⟨rfl, hb3⟩
    obtain ⟨t0, t1, t2, f0, f1, f2, kX, hfin⟩ := (hM2.out.more hb3).told (v := 0) (ts := 5) (ft := true) ((hb3.block _ (block_lt hO2.out)).trans hO2.out) hX hn0.out
    clear hM2 hO2 con hb3
    unfold outV
    go_wp2_with fail
    refine bodyPost_ret (results_cell_row (by rfl) _ _ X 59 _ (0, 0) _ rfl kX Tryd.underlying59 rfl (by kernel_rfl)) rfl ?_
    exact ⟨rfl, _, hfin.out⟩
  · obtain ⟨rfl, rfl, rfl, rfl⟩ : M2 = { M with ob := M.ob.set (id - 1) ((M.ob.getD (id - 1) []).set b z) } ∧ 0 = v ∧ ts = 1 ∧ ft = false := by
      have := hv.out
      rw [hs] at this
      cases this
      exact ⟨rfl, rfl, rfl, rfl⟩
    clear hv
    obtain ⟨gb, go, cap, c2, cg, hbk⟩ := hMd.out.is.find hg hr
    rw [hgk] at cg hbk
    have hgx : gk ≠ xb := fun e => by
      have := hMd.out.is.ap.off 4 5 gk (by omega) (by omega) (.inr (hgk ▸ bs_in hMd.out.is.p4.len hg)) (e ▸ hxb)
      omega
    have hxX : xb ≠ X := hn0.out 5 xb (by omega) hxb
    have vz : W1.cell? ⟨gk, 3 + c, none⟩ = some (.int .i64 z) := by rw [← hz]; exact cell_of hbk (gcl_at r (a := c) (by omega))
    clear hz
    have hMe := Lib.hid (hMd.out.more (Below.refl _ _).drew)
    have hOe : Hid (W1.drew.heap[X]? = some (.cells #[.int .i64 0, .int .i64 0, .bool false] 59 (0, 0))) := Lib.hid hO.out
    have scd : W1.drew.cell? ⟨xb, xo + b, none⟩ = some (.int .i64 v0) := sc
    have sfd : W1.drew.frozen? ⟨xb, xo + b, none⟩ = false := sf
    clear hMd hO
    go_upto_region 4 with fail
    go_still_tail 15, (by kernel_rfl)
    change wpList _ _ _ _ _ W1.drew
    obtain ⟨W2, hW1⟩ : ∃ WW, W1.drew = WW := ⟨_, rfl⟩
    rw [hW1] at hMe hOe scd sfd ⊢
    clear hW1
    have hM2 : Hid (Tn B w fs p q (W2.setCell ⟨xb, xo + b, none⟩ (.int .i64 z)) q { M with ob := M.ob.set (id - 1) ((M.ob.getD (id - 1) []).set b z) }) := Lib.hid (hMe.out.trans (tn_in hMe.out.is (hMe.out.is.setO (by omega) eo hlo hil z) 5 (by omega) (wrote_setCell (a := ⟨xb, xo + b, none⟩) rfl rfl rfl rfl hxb)))
    have hO2 : Hid ((W2.setCell ⟨xb, xo + b, none⟩ (.int .i64 z)).heap[X]? = some (.cells #[.int .i64 0, .int .i64 0, .bool false] 59 (0, 0))) := Lib.hid ((Below.heap_setCell _ _ _ _ (fun e => hxX e.symm)).trans hOe.out)
    clear hMe hOe c2 cg hbk i1d i3d sc sf vz
    go_upto_region 5 with fail
    obtain ⟨W3, hW3⟩ : ∃ W3, W2.setCell ⟨xb, xo + b, none⟩ (.int .i64 z) = W3 := ⟨_, rfl⟩
    rw [hW3] at hM2 hO2 ⊢
    clear hW3 scd sfd
    have con := on_any (0) W3
    go_wp2_with fail
    with_reducible refine Calls.mono con ?_
    rintro e w3 ⟨rfl, hb3⟩
    obtain ⟨t0, t1, t2, f0, f1, f2, kX, hfin⟩ := (hM2.out.more hb3).told (v := 0) (ts := 1) (ft := false) ((hb3.block _ (block_lt hO2.out)).trans hO2.out) hX hn0.out
    clear hM2 hO2 con hb3
    unfold outV
    go_wp2_with fail
    refine bodyPost_ret (results_cell_row (by rfl) _ _ X 59 _ (0, 0) _ rfl kX Tryd.underlying59 rfl (by kernel_rfl)) rfl ?_
    exact ⟨rfl, _, hfin.out⟩
end Md
end Go.Proofs.YtdhkakjiahkjnaaDoor
/- The model: what its states, sleepers and waiters answer; block, sleep, wake. -/
namespace Go.Proofs.YtdhkakjiahkjnaaDoor
open Go.RowKit Go.Lib Fx Ho Gr
set_option linter.unusedVariables false
namespace Md
open Cd (Ins zi ca c4)
variable {B w w' : World} {fs : List (List Ins)} {p : Nat} {q q' : Pl} {M M' : Mo} {H H' : Home} {g a b c n i : Nat} {r : Gor}
/-- The call answers a value, and the model is M' then. -/
def Mt (r : Value) (B w : World) (fs : List (List Ins)) (p : Nat) (q : Pl) (M' : Mo) (e : Ending) (w' : World) : Prop := e = .returned r ∧ ∃ q', Tn B w fs p q w' q' M'
theorem m_wait (h : IsM B w fs p q M) (ha : a < 32) (g : Int) (hno : ∀ j, j < 32 → g ∉ M.wz j) (hs : (M.wz a).length < 1000000) : Calls Tryd.prog 67 #[.pointer (some ⟨q.pw, 0, none⟩), .int .i64 a, .int .i64 g] w (Mt (.int .i64 0) B w fs p q { M with wz := Wt.upd M.wz a (M.wz a ++ [g]) }) :=
  (Wt.wait_in (W0 := B) (H := Wt.home q.pw q.V) ⟨q.V, h.p3, fun k hk => (h.ap.low 3 k (by omega) hk).1, h.bel, rfl⟩ ha g hno hs).mono fun e w' ⟨he, H', hw, V', hV, _, _, hH⟩ => by
    subst hH
    exact ⟨he, { q with V := V' }, tn_of 3 h.bel.size ⟨rfl, rfl, rfl⟩ (by omega) hw (h.setW hw hV) (fun j k hj hn hk => by
      rcases (show j = 0 ∨ j = 1 ∨ j = 2 ∨ j = 3 ∨ j = 4 ∨ j = 5 ∨ j = 6 ∨ j = 7 by omega) with rfl | rfl | rfl | rfl | rfl | rfl | rfl | rfl <;> first | exact hk | exact absurd rfl hn)⟩
theorem m_wake (h : IsM B w fs p q M) (ha : a < 32) {g : Int} {T : List Int} (hz : M.wz a = g :: T) : Calls Tryd.prog 68 #[.pointer (some ⟨q.pw, 0, none⟩), .int .i64 a] w (Mt (.tuple #[.int .i64 g, .bool true]) B w fs p q { M with wz := Wt.upd M.wz a T }) :=
  (Wt.wake_some (W0 := B) (H := Wt.home q.pw q.V) ⟨q.V, h.p3, fun k hk => (h.ap.low 3 k (by omega) hk).1, h.bel, rfl⟩ ha hz).mono fun e w' ⟨he, H', hw, V', hV, _, _, hH⟩ => by
    subst hH
    exact ⟨he, { q with V := V' }, tn_of 3 h.bel.size ⟨rfl, rfl, rfl⟩ (by omega) hw (h.setW hw hV) (fun j k hj hn hk => by
      rcases (show j = 0 ∨ j = 1 ∨ j = 2 ∨ j = 3 ∨ j = 4 ∨ j = 5 ∨ j = 6 ∨ j = 7 by omega) with rfl | rfl | rfl | rfl | rfl | rfl | rfl | rfl <;> first | exact hk | exact absurd rfl hn)⟩
theorem m_wake_no (h : IsM B w fs p q M) (ha : a < 32) (hz : M.wz a = []) : Calls Tryd.prog 68 #[.pointer (some ⟨q.pw, 0, none⟩), .int .i64 a] w (Mt (.tuple #[.int .i64 0, .bool false]) B w fs p q M) :=
  (Wt.wake_none (W0 := B) (H := Wt.home q.pw q.V) ⟨q.V, h.p3, fun k hk => (h.ap.low 3 k (by omega) hk).1, h.bel, rfl⟩ ha hz).mono fun e w' ⟨he, hw⟩ => by
    subst hw
    exact ⟨he, q, tn_refl h⟩
theorem m_move (h : IsM B w fs p q M) (hg : g < M.st.length) (t : Int) (hm : St.mayB (M.st.getD g 0) t = true) : Calls Tryd.prog 13 #[.pointer (some ⟨q.ps, 0, none⟩), .int .i64 g, .int .i64 t] w (Mt (.int .i64 0) B w fs p q { M with st := M.st.set g t }) :=
  (St.move_ok g t hg hm w h.p1).mono fun e w' ⟨he, v', hw, hs⟩ => ⟨he, { q with sv := v' }, tn_of 1 h.bel.size ⟨rfl, rfl, rfl⟩ (by omega) hw (h.setS hw hs) (fun j k hj hn hk => by
      rcases (show j = 0 ∨ j = 1 ∨ j = 2 ∨ j = 3 ∨ j = 4 ∨ j = 5 ∨ j = 6 ∨ j = 7 by omega) with rfl | rfl | rfl | rfl | rfl | rfl | rfl | rfl <;> first | exact hk | exact absurd rfl hn)⟩
theorem m_spawn (h : IsM B w fs p q M) (hs : M.st.length < 1024) : Calls Tryd.prog 58 #[.pointer (some ⟨q.ps, 0, none⟩)] w (Mt (.tuple #[.int .i64 M.st.length, .int .i64 0]) B w fs p q { M with st := M.st ++ [1] }) :=
  (St.spawn_any w h.p1 hs).mono fun e w' ⟨he, v', hw, hs⟩ => ⟨he, { q with sv := v' }, tn_of 1 h.bel.size ⟨rfl, rfl, rfl⟩ (by omega) hw (h.setS hw hs) (fun j k hj hn hk => by
      rcases (show j = 0 ∨ j = 1 ∨ j = 2 ∨ j = 3 ∨ j = 4 ∨ j = 5 ∨ j = 6 ∨ j = 7 by omega) with rfl | rfl | rfl | rfl | rfl | rfl | rfl | rfl <;> first | exact hk | exact absurd rfl hn)⟩
theorem m_add (h : IsM B w fs p q M) (hs : M.tm.length < 1000) (hn : M.tn < 1000000) (x g : Int) : Calls Tryd.prog 66 #[.pointer (some ⟨q.pt, 0, none⟩), .int .i64 x, .int .i64 g] w (Mt (.tuple #[]) B w fs p q { M with tm := M.tm ++ [(x, g, (M.tn : Int))], tn := M.tn + 1 }) :=
  (Pt.add_any h.p2.1 (by rw [h.p2.2.length_eq]; exact hs) hn x g).mono fun e w' ⟨he, v', L, h1, h2, hw⟩ => ⟨he, { q with tv := v', Mt := L }, tn_of 2 h.bel.size ⟨rfl, rfl, rfl⟩ (by omega) hw (h.setT hw h1 (h2.trans (h.p2.2.append_right _)) (fun k hk => hk.elim (fun e => e ▸ h1.tm.pile.lt) (fun e => h1.tm.pile.row.lt e))) (fun j k hj hn hk => by
      rcases (show j = 0 ∨ j = 1 ∨ j = 2 ∨ j = 3 ∨ j = 4 ∨ j = 5 ∨ j = 6 ∨ j = 7 by omega) with rfl | rfl | rfl | rfl | rfl | rfl | rfl | rfl <;> first | exact hk | exact absurd rfl hn)⟩
set_option maxRecDepth 100000 in
theorem later_any (x : Int) (n : Nat) (h0 : 0 ≤ x) (h1 : x ≤ 4611686018427387904) (hn : n ≤ 4611686018427387903) (w : World) : Calls Tryd.prog 17 #[.int .i64 x, .int .i64 n] w (Still (.int .i64 (x + n)) w) := by
  have e1 : IntKind.i64.wrap (9223372036854775807 - x) = 9223372036854775807 - x := by rw [IntKind.wrap_i64]; omega
  have e2 : ¬ 9223372036854775807 - x < (n : Int) := by omega
  have e2' : decide (9223372036854775807 - x < (n : Int)) = false := decide_eq_false e2
  have e3 : IntKind.i64.wrap (x + (n : Int)) = x + (n : Int) := by rw [IntKind.wrap_i64]; omega
  go_enter Tryd.func17, Tryd.ntmps17
  go_wp2_with fail
  go_ret
  exact ⟨rfl, rfl⟩
set_option maxRecDepth 100000 in
theorem block_any (h : IsM B w fs p q M) (hg : g < M.gs.length) (hr : M.gs.getD g g0 = r) (hk : r.sk.length = 16) (x : Int) (ha : a < 32) (hno : ∀ j, j < 32 → (g : Int) ∉ M.wz j) (hs : (M.wz a).length < 1000000) : Calls Tryd.prog 51 #[.pointer (some ⟨p, 0, none⟩), .int .i64 g, .agg #[.int .i64 x, .int .i64 a, .int .i64 b, .int .i64 c]] w (MR B w fs p q { M with wz := Wt.upd M.wz a (M.wz a ++ [(g : Int)]) } 0 3 false) := by
  obtain ⟨kI, kO, hbU, sU⟩ := news w x a b c
  obtain ⟨U, hU⟩ : ∃ U, (w.alloc (insC x a b c)).alloc (outC 0 0 false) = U := ⟨_, rfl⟩
  rw [hU] at kI kO hbU sU
  have hM := h.below hbU
  obtain ⟨gb, go, cap, c2, cg, hbk⟩ := hM.find hg hr
  have i0 : U.cell? ⟨w.heap.size, 0, none⟩ = some (.int .i64 x) := cell_of kI rfl
  have i1 : U.cell? ⟨w.heap.size, 1, none⟩ = some (.int .i64 a) := cell_of kI rfl
  have i2 : U.cell? ⟨w.heap.size, 2, none⟩ = some (.int .i64 b) := cell_of kI rfl
  have i3 : U.cell? ⟨w.heap.size, 3, none⟩ = some (.int .i64 c) := cell_of kI rfl
  have hn0 : Hid (∀ i k, i < 8 → hm p q i k → k ≠ w.heap.size + 1) := Lib.hid fun i k hi hk => by have := (h.ap.low i k hi hk).2; omega
  have hX : w.heap.size ≤ w.heap.size + 1 := by omega
  have g0' : (0 : Int) ≤ (g : Int) := by omega
  have g1 : (g : Int) < (M.gs.length : Int) := by omega
  have a0 : (0 : Int) ≤ (a : Int) := by omega
  have b0 : (0 : Int) ≤ (b : Int) := by omega
  have hUlt : w.heap.size + 1 < U.heap.size := by omega
  have hMd : Hid (Tn B w fs p q U.drew q M) := Lib.hid (tn_below h hbU.drew)
  have hO : Hid (U.drew.heap[w.heap.size + 1]? = some (.cells #[.int .i64 0, .int .i64 0, .bool false] 59 (0, 0))) := Lib.hid kO
  have hMU : Hid (Tn B w fs p q U q M) := Lib.hid (tn_below h hbU)
  have hOU := Lib.hid kO
  clear h hM kI kO hbU
  go_enter Tryd.func51, Tryd.ntmps51
  go_upto_region 1 with fail
  have hU : (w.alloc (.cells #[.int .i64 x, .int .i64 a, .int .i64 b, .int .i64 c] 26)).alloc (.cells #[.int .i64 0, .int .i64 0, .bool false] 59) = U := hU
  rw [hU]
  clear hU
  obtain ⟨X, hXe⟩ : ∃ X, w.heap.size + 1 = X := ⟨_, rfl⟩
  rw [hXe] at hn0 hX hO hOU hUlt ⊢
  obtain ⟨gk, hgk⟩ : ∃ k, q.bs.getD g 0 = k := ⟨_, rfl⟩
  have hgX : gk ≠ X := hn0.out 4 gk (by omega) (.inr (hgk ▸ bs_in hMd.out.is.p4.len hg))
  rw [hgk] at cg hbk
  have c5 : U.cell? ⟨p, 5, none⟩ = some (.pointer (some ⟨q.pw, 0, none⟩)) := cell_of hMU.out.is.p0 rfl
  have hlX : X < U.drew.heap.size := hUlt
  replace hno := Lib.hid hno
  go_still_tail 7, (by kernel_rfl)
  change wpList _ _ _ _ _ U.drew
  obtain ⟨W1, hW1⟩ : ∃ W1, U.drew = W1 := ⟨_, rfl⟩
  rw [hW1] at hMd hO hlX ⊢
  clear hW1 c2 cg i0 i1 i2 i3 hbk hUlt hXe sU c5 hMU hOU
  have cw := m_wait hMd.out.is ha (g : Int) hno.out hs
  clear hno
  go_wp2_with fail
  with_reducible refine Calls.mono cw ?_
  rintro e w3 ⟨rfl, q2, hT⟩
  have hTw := Lib.hid (hMd.out.trans hT)
  clear cw hMd
  obtain ⟨hn2, hX2⟩ := hT.free hn0.out hlX
  obtain ⟨t0, t1, t2, f0, f1, f2, kX, hfin⟩ := hTw.out.told (v := 0) (ts := 3) (ft := false) (hX2.trans hO.out) hX hn2
  clear hT hX2 hn2 hO hTw
  go_wp2_with fail
  refine bodyPost_ret (results_cell_row (by rfl) _ _ X 59 _ (0, 0) _ rfl kX Tryd.underlying59 rfl (by kernel_rfl)) rfl ?_
  exact ⟨rfl, _, hfin.out⟩
set_option maxRecDepth 100000 in
theorem wake_no (h : IsM B w fs p q M) (hg : g < M.gs.length) (hr : M.gs.getD g g0 = r) (hk : r.sk.length = 16) (x : Int) (ha : a < 32) (hz : M.wz a = []) : Calls Tryd.prog 52 #[.pointer (some ⟨p, 0, none⟩), .int .i64 g, .agg #[.int .i64 x, .int .i64 a, .int .i64 b, .int .i64 c]] w (MR B w fs p q M (-1) 1 false) := by
  have h0 := Lib.hid h
  obtain ⟨kI, kO, hbU, sU⟩ := news w x a b c
  obtain ⟨U, hU⟩ : ∃ U, (w.alloc (insC x a b c)).alloc (outC 0 0 false) = U := ⟨_, rfl⟩
  rw [hU] at kI kO hbU sU
  have hM := h.below hbU
  obtain ⟨gb, go, cap, c2, cg, hbk⟩ := hM.find hg hr
  have i0 : U.cell? ⟨w.heap.size, 0, none⟩ = some (.int .i64 x) := cell_of kI rfl
  have i1 : U.cell? ⟨w.heap.size, 1, none⟩ = some (.int .i64 a) := cell_of kI rfl
  have i2 : U.cell? ⟨w.heap.size, 2, none⟩ = some (.int .i64 b) := cell_of kI rfl
  have i3 : U.cell? ⟨w.heap.size, 3, none⟩ = some (.int .i64 c) := cell_of kI rfl
  have hn0 : Hid (∀ i k, i < 8 → hm p q i k → k ≠ w.heap.size + 1) := Lib.hid fun i k hi hk => by have := (h.ap.low i k hi hk).2; omega
  have hX : w.heap.size ≤ w.heap.size + 1 := by omega
  have g0' : (0 : Int) ≤ (g : Int) := by omega
  have g1 : (g : Int) < (M.gs.length : Int) := by omega
  have a0 : (0 : Int) ≤ (a : Int) := by omega
  have b0 : (0 : Int) ≤ (b : Int) := by omega
  have hUlt : w.heap.size + 1 < U.heap.size := by omega
  have hMd : Hid (Tn B w fs p q U.drew q M) := Lib.hid (tn_below h hbU.drew)
  have hO : Hid (U.drew.heap[w.heap.size + 1]? = some (.cells #[.int .i64 0, .int .i64 0, .bool false] 59 (0, 0))) := Lib.hid kO
  have hMU : Hid (Tn B w fs p q U q M) := Lib.hid (tn_below h hbU)
  have hOU := Lib.hid kO
  clear h hM kI kO hbU
  go_enter Tryd.func52, Tryd.ntmps52
  go_upto_region 1 with fail
  have hU : (w.alloc (.cells #[.int .i64 x, .int .i64 a, .int .i64 b, .int .i64 c] 26)).alloc (.cells #[.int .i64 0, .int .i64 0, .bool false] 59) = U := hU
  rw [hU]
  clear hU
  obtain ⟨X, hXe⟩ : ∃ X, w.heap.size + 1 = X := ⟨_, rfl⟩
  rw [hXe] at hn0 hX hO hOU hUlt ⊢
  obtain ⟨gk, hgk⟩ : ∃ k, q.bs.getD g 0 = k := ⟨_, rfl⟩
  have hgX : gk ≠ X := hn0.out 4 gk (by omega) (.inr (hgk ▸ bs_in hMd.out.is.p4.len hg))
  rw [hgk] at cg hbk
  have c5 : U.cell? ⟨p, 5, none⟩ = some (.pointer (some ⟨q.pw, 0, none⟩)) := cell_of hMU.out.is.p0 rfl
  obtain ⟨N, hNe⟩ : ∃ N, w.heap.size = N := ⟨_, rfl⟩
  rw [hNe] at i1 hXe ⊢
  have hNX : N < U.heap.size := by omega
  have hN0 : Hid (∀ i k, i < 8 → hm p q i k → k ≠ N) := Lib.hid fun i k hi hk => by have := (h0.out.ap.low i k hi hk).2; omega
  have cw : Hid (∀ V, Below U.heap.size U V → Calls Tryd.prog 68 #[.pointer (some ⟨q.pw, 0, none⟩), .int .i64 a] V fun e wz => e = .returned (.tuple #[.int .i64 0, .bool false]) ∧ (wz.cell? ⟨p, 5, none⟩ = some (.pointer (some ⟨q.pw, 0, none⟩)) ∧ wz.cell? ⟨N, 1, none⟩ = some (.int .i64 a)) ∧ Hid (∃ q', Tn B U fs p q wz q' M)) := Lib.hid fun V hV => (m_wake_no (hMU.out.is.below hV) ha hz).mono fun e wz ⟨he, q', hT⟩ => by
    have hTU := (tn_below hMU.out.is hV).trans hT
    obtain ⟨_, k2⟩ := hTU.free hN0.out hNX
    refine ⟨he, ⟨?_, ?_⟩, Lib.hid ⟨q', hTU⟩⟩
    · have := cell_of hT.is.p0 (j := 5) rfl
      rw [← hT.pls.2.2]; exact this
    · rw [World.cell?_of_block (a := ⟨N, 1, none⟩) k2]; exact i1
  have hUX : X < U.heap.size := hUlt
  clear h0 hMd hO c2 cg i0 i2 i3 hbk hUlt hXe sU hNe hN0 hNX
  go_upto_region 1 with fail
  go_region_held3 (fun W' => W'.cell? ⟨p, 5, none⟩ = some (.pointer (some ⟨q.pw, 0, none⟩)) ∧ W'.cell? ⟨N, 1, none⟩ = some (.int .i64 a)) (first | exact ⟨c5, i1⟩ | go_keep | assumption) ((go_at_call 68; ((with_reducible refine (cw.out _ (by repeat (first | exact Below.refl _ _ | refine below_drewN ?_ _ | refine Below.drew ?_))).mono ?_); rintro e wz ⟨rfl, hkz, hT0⟩)))
  all_goals
    obtain ⟨q2, hT⟩ := hT0.out
    obtain ⟨hn2, hX2⟩ := hT.free hn0.out hUX
    have hM2 := Lib.hid (hMU.out.trans hT)
    have hO2 : Hid (wz.heap[X]? = some (.cells #[.int .i64 0, .int .i64 0, .bool false] 59 (0, 0))) := Lib.hid (hX2.trans hOU.out)
    replace hn2 := Lib.hid hn2
    clear cw hT0 hT hX2 hMU hOU c5 i1 hkz
    have con := on_any (-1) wz
    go_wp2_with fail
    with_reducible refine Calls.mono con ?_
    rintro e w3 ⟨rfl, hb3⟩
    obtain ⟨t0, t1, t2, f0, f1, f2, kX, hfin⟩ := (hM2.out.more hb3).told (v := -1) (ts := 1) (ft := false) ((hb3.block _ (block_lt hO2.out)).trans hO2.out) hX hn2.out
    clear hM2 hO2 con hb3
    unfold outV
    go_wp2_with fail
    refine bodyPost_ret (results_cell_row (by rfl) _ _ X 59 _ (0, 0) _ rfl kX Tryd.underlying59 rfl (by kernel_rfl)) rfl ?_
    exact ⟨rfl, _, hfin.out⟩
set_option maxRecDepth 100000 in
theorem wake_yes (h : IsM B w fs p q M) (hg : g < M.gs.length) (hr : M.gs.getD g g0 = r) (hk : r.sk.length = 16) (x : Int) (ha : a < 32) {t : Nat} {T : List Int} (hz : M.wz a = (t : Int) :: T) (ht : t < M.st.length) (hm2 : St.mayB (M.st.getD t 0) 1 = true) : Calls Tryd.prog 52 #[.pointer (some ⟨p, 0, none⟩), .int .i64 g, .agg #[.int .i64 x, .int .i64 a, .int .i64 b, .int .i64 c]] w (MR B w fs p q { M with wz := Wt.upd M.wz a T, st := M.st.set t 1 } t 1 false) := by
  have h0 := Lib.hid h
  obtain ⟨kI, kO, hbU, sU⟩ := news w x a b c
  obtain ⟨U, hU⟩ : ∃ U, (w.alloc (insC x a b c)).alloc (outC 0 0 false) = U := ⟨_, rfl⟩
  rw [hU] at kI kO hbU sU
  have hM := h.below hbU
  obtain ⟨gb, go, cap, c2, cg, hbk⟩ := hM.find hg hr
  have i0 : U.cell? ⟨w.heap.size, 0, none⟩ = some (.int .i64 x) := cell_of kI rfl
  have i1 : U.cell? ⟨w.heap.size, 1, none⟩ = some (.int .i64 a) := cell_of kI rfl
  have i2 : U.cell? ⟨w.heap.size, 2, none⟩ = some (.int .i64 b) := cell_of kI rfl
  have i3 : U.cell? ⟨w.heap.size, 3, none⟩ = some (.int .i64 c) := cell_of kI rfl
  have hn0 : Hid (∀ i k, i < 8 → hm p q i k → k ≠ w.heap.size + 1) := Lib.hid fun i k hi hk => by have := (h.ap.low i k hi hk).2; omega
  have hX : w.heap.size ≤ w.heap.size + 1 := by omega
  have g0' : (0 : Int) ≤ (g : Int) := by omega
  have g1 : (g : Int) < (M.gs.length : Int) := by omega
  have a0 : (0 : Int) ≤ (a : Int) := by omega
  have b0 : (0 : Int) ≤ (b : Int) := by omega
  have hUlt : w.heap.size + 1 < U.heap.size := by omega
  have hMd : Hid (Tn B w fs p q U.drew q M) := Lib.hid (tn_below h hbU.drew)
  have hO : Hid (U.drew.heap[w.heap.size + 1]? = some (.cells #[.int .i64 0, .int .i64 0, .bool false] 59 (0, 0))) := Lib.hid kO
  have hMU : Hid (Tn B w fs p q U q M) := Lib.hid (tn_below h hbU)
  have hOU := Lib.hid kO
  clear h hM kI kO hbU
  go_enter Tryd.func52, Tryd.ntmps52
  go_upto_region 1 with fail
  have hU : (w.alloc (.cells #[.int .i64 x, .int .i64 a, .int .i64 b, .int .i64 c] 26)).alloc (.cells #[.int .i64 0, .int .i64 0, .bool false] 59) = U := hU
  rw [hU]
  clear hU
  obtain ⟨X, hXe⟩ : ∃ X, w.heap.size + 1 = X := ⟨_, rfl⟩
  rw [hXe] at hn0 hX hO hOU hUlt ⊢
  obtain ⟨gk, hgk⟩ : ∃ k, q.bs.getD g 0 = k := ⟨_, rfl⟩
  have hgX : gk ≠ X := hn0.out 4 gk (by omega) (.inr (hgk ▸ bs_in hMd.out.is.p4.len hg))
  rw [hgk] at cg hbk
  have c5 : U.cell? ⟨p, 5, none⟩ = some (.pointer (some ⟨q.pw, 0, none⟩)) := cell_of hMU.out.is.p0 rfl
  obtain ⟨N, hNe⟩ : ∃ N, w.heap.size = N := ⟨_, rfl⟩
  rw [hNe] at i1 hXe ⊢
  have hNX : N < U.heap.size := by omega
  have hN0 : Hid (∀ i k, i < 8 → hm p q i k → k ≠ N) := Lib.hid fun i k hi hk => by have := (h0.out.ap.low i k hi hk).2; omega
  have cw : Hid (∀ V, Below U.heap.size U V → Calls Tryd.prog 68 #[.pointer (some ⟨q.pw, 0, none⟩), .int .i64 a] V fun e wz => e = .returned (.tuple #[.int .i64 t, .bool true]) ∧ (wz.cell? ⟨p, 5, none⟩ = some (.pointer (some ⟨q.pw, 0, none⟩)) ∧ wz.cell? ⟨N, 1, none⟩ = some (.int .i64 a)) ∧ Hid (∃ q', Tn B U fs p q wz q' { M with wz := Wt.upd M.wz a T })) := Lib.hid fun V hV => (m_wake (hMU.out.is.below hV) ha hz).mono fun e wz ⟨he, q', hT⟩ => by
    have hTU := (tn_below hMU.out.is hV).trans hT
    obtain ⟨_, k2⟩ := hTU.free hN0.out hNX
    refine ⟨he, ⟨?_, ?_⟩, Lib.hid ⟨q', hTU⟩⟩
    · have := cell_of hT.is.p0 (j := 5) rfl
      rw [← hT.pls.2.2]; exact this
    · rw [World.cell?_of_block (a := ⟨N, 1, none⟩) k2]; exact i1
  have hUX : X < U.heap.size := hUlt
  clear h0 hMd hO c2 cg i0 i2 i3 hbk hUlt hXe sU hNe hN0 hNX
  go_upto_region 1 with fail
  go_region_held3 (fun W' => W'.cell? ⟨p, 5, none⟩ = some (.pointer (some ⟨q.pw, 0, none⟩)) ∧ W'.cell? ⟨N, 1, none⟩ = some (.int .i64 a)) (first | exact ⟨c5, i1⟩ | go_keep | assumption) ((go_at_call 68; ((with_reducible refine (cw.out _ (by repeat (first | exact Below.refl _ _ | refine below_drewN ?_ _ | refine Below.drew ?_))).mono ?_); rintro e wz ⟨rfl, hkz, hT0⟩)))
  all_goals
    obtain ⟨q2, hT⟩ := hT0.out
    obtain ⟨hn2, hX2⟩ := hT.free hn0.out hUX
    have hM2 := Lib.hid (hMU.out.trans hT)
    have hO2 : Hid (wz.heap[X]? = some (.cells #[.int .i64 0, .int .i64 0, .bool false] 59 (0, 0))) := Lib.hid (hX2.trans hOU.out)
    replace hn2 := Lib.hid hn2
    clear cw hT0 hT hX2 hMU hOU c5 i1 hkz
    have c3 : wz.cell? ⟨p, 3, none⟩ = some (.pointer (some ⟨q2.ps, 0, none⟩)) := cell_of hM2.out.is.p0 rfl
    have cmv := m_move hM2.out.is (g := t) ht 1 hm2
    have hzX : X < wz.heap.size := block_lt hO2.out
    clear hz
    go_wp2_with fail
    with_reducible refine Calls.mono cmv ?_
    rintro e wy ⟨rfl, q3, hT3⟩
    obtain ⟨hn3, hX3⟩ := hT3.free hn2.out hzX
    have hM2 := Lib.hid (hM2.out.trans hT3)
    have hO2 : Hid (wy.heap[X]? = some (.cells #[.int .i64 0, .int .i64 0, .bool false] 59 (0, 0))) := Lib.hid (hX3.trans hO2.out)
    have hn2 := Lib.hid hn3
    clear cmv hT3 hX3 hn3 c3
    have con := on_any (t) wy
    go_wp2_with fail
    with_reducible refine Calls.mono con ?_
    rintro e w3 ⟨rfl, hb3⟩
    obtain ⟨t0, t1, t2, f0, f1, f2, kX, hfin⟩ := (hM2.out.more hb3).told (v := t) (ts := 1) (ft := false) ((hb3.block _ (block_lt hO2.out)).trans hO2.out) hX hn2.out
    clear hM2 hO2 con hb3
    unfold outV
    go_wp2_with fail
    refine bodyPost_ret (results_cell_row (by rfl) _ _ X 59 _ (0, 0) _ rfl kX Tryd.underlying59 rfl (by kernel_rfl)) rfl ?_
    exact ⟨rfl, _, hfin.out⟩
set_option maxRecDepth 100000 in
theorem sleep_any (h : IsM B w fs p q M) (hg : g < M.gs.length) (hr : M.gs.getD g g0 = r) (hk : r.sk.length = 16) (x : Int) (hb : b < 256) (hc : c < 256) (ck0 : 0 ≤ M.ck) (ck1 : M.ck ≤ 4611686018427387904) (hs : M.tm.length < 1000) (htn : M.tn < 1000000) {n : Nat} (hnn : n = 256 * b + c + 1) : Calls Tryd.prog 50 #[.pointer (some ⟨p, 0, none⟩), .int .i64 g, .agg #[.int .i64 x, .int .i64 a, .int .i64 b, .int .i64 c]] w (MR B w fs p q { M with tm := M.tm ++ [(M.ck + (n : Int), (g : Int), (M.tn : Int))], tn := M.tn + 1 } 0 3 false) := by
  have h0 := Lib.hid h
  obtain ⟨kI, kO, hbU, sU⟩ := news w x a b c
  obtain ⟨U, hU⟩ : ∃ U, (w.alloc (insC x a b c)).alloc (outC 0 0 false) = U := ⟨_, rfl⟩
  rw [hU] at kI kO hbU sU
  have hM := h.below hbU
  obtain ⟨gb, go, cap, c2, cg, hbk⟩ := hM.find hg hr
  have i0 : U.cell? ⟨w.heap.size, 0, none⟩ = some (.int .i64 x) := cell_of kI rfl
  have i1 : U.cell? ⟨w.heap.size, 1, none⟩ = some (.int .i64 a) := cell_of kI rfl
  have i2 : U.cell? ⟨w.heap.size, 2, none⟩ = some (.int .i64 b) := cell_of kI rfl
  have i3 : U.cell? ⟨w.heap.size, 3, none⟩ = some (.int .i64 c) := cell_of kI rfl
  have hn0 : Hid (∀ i k, i < 8 → hm p q i k → k ≠ w.heap.size + 1) := Lib.hid fun i k hi hk => by have := (h.ap.low i k hi hk).2; omega
  have hX : w.heap.size ≤ w.heap.size + 1 := by omega
  have g0' : (0 : Int) ≤ (g : Int) := by omega
  have g1 : (g : Int) < (M.gs.length : Int) := by omega
  have a0 : (0 : Int) ≤ (a : Int) := by omega
  have b0 : (0 : Int) ≤ (b : Int) := by omega
  have hUlt : w.heap.size + 1 < U.heap.size := by omega
  have hMd : Hid (Tn B w fs p q U.drew q M) := Lib.hid (tn_below h hbU.drew)
  have hO : Hid (U.drew.heap[w.heap.size + 1]? = some (.cells #[.int .i64 0, .int .i64 0, .bool false] 59 (0, 0))) := Lib.hid kO
  have hMU : Hid (Tn B w fs p q U q M) := Lib.hid (tn_below h hbU)
  have hOU := Lib.hid kO
  clear h hM kI kO hbU
  go_enter Tryd.func50, Tryd.ntmps50
  go_upto_region 1 with fail
  have hU : (w.alloc (.cells #[.int .i64 x, .int .i64 a, .int .i64 b, .int .i64 c] 26)).alloc (.cells #[.int .i64 0, .int .i64 0, .bool false] 59) = U := hU
  rw [hU]
  clear hU
  obtain ⟨X, hXe⟩ : ∃ X, w.heap.size + 1 = X := ⟨_, rfl⟩
  rw [hXe] at hn0 hX hO hOU hUlt ⊢
  obtain ⟨gk, hgk⟩ : ∃ k, q.bs.getD g 0 = k := ⟨_, rfl⟩
  have hgX : gk ≠ X := hn0.out 4 gk (by omega) (.inr (hgk ▸ bs_in hMd.out.is.p4.len hg))
  rw [hgk] at cg hbk
  have c4 : U.cell? ⟨p, 4, none⟩ = some (.pointer (some ⟨q.pt, 0, none⟩)) := cell_of hMU.out.is.p0 rfl
  have c6 : U.cell? ⟨p, 6, none⟩ = some (.int .i64 M.ck) := cell_of hMU.out.is.p0 rfl
  obtain ⟨N, hNe⟩ : ∃ N, w.heap.size = N := ⟨_, rfl⟩
  rw [hNe] at i2 i3 hXe ⊢
  have e1 : IntKind.i64.wrap (256 * (b : Int)) = 256 * (b : Int) := by rw [IntKind.wrap_i64]; omega
  have e2 : IntKind.i64.wrap (256 * (b : Int) + (c : Int)) = 256 * (b : Int) + (c : Int) := by rw [IntKind.wrap_i64]; omega
  have e3 : IntKind.i64.wrap (256 * (b : Int) + (c : Int) + 1) = 256 * (b : Int) + (c : Int) + 1 := by rw [IntKind.wrap_i64]; omega
  have e4 : Hid ((n : Int) = 256 * (b : Int) + (c : Int) + 1) := Lib.hid (by omega)
  have hNX : N < U.heap.size := by omega
  have hN0 : Hid (∀ i k, i < 8 → hm p q i k → k ≠ N) := Lib.hid fun i k hi hk => by have := (h0.out.ap.low i k hi hk).2; omega
  have cl : Hid (∀ V, Calls Tryd.prog 17 #[.int .i64 M.ck, .int .i64 (256 * (b : Int) + (c : Int) + 1)] V (Still (.int .i64 (M.ck + (n : Int))) V)) := Lib.hid fun V => by have := later_any M.ck n ck0 ck1 (by omega) V; rw [e4.out] at this ⊢; exact this
  have ca : Hid (∀ V, Below U.heap.size U V → Calls Tryd.prog 66 #[.pointer (some ⟨q.pt, 0, none⟩), .int .i64 (M.ck + (n : Int)), .int .i64 g] V fun e wz => e = .returned (.tuple #[]) ∧ (wz.cell? ⟨p, 4, none⟩ = some (.pointer (some ⟨q.pt, 0, none⟩)) ∧ wz.cell? ⟨p, 6, none⟩ = some (.int .i64 M.ck) ∧ wz.cell? ⟨N, 2, none⟩ = some (.int .i64 b) ∧ wz.cell? ⟨N, 3, none⟩ = some (.int .i64 c)) ∧ Hid (∃ q', Tn B U fs p q wz q' { M with tm := M.tm ++ [(M.ck + (n : Int), (g : Int), (M.tn : Int))], tn := M.tn + 1 })) := Lib.hid fun V hV => (m_add (hMU.out.is.below hV) hs htn (M.ck + (n : Int)) (g : Int)).mono fun e wz ⟨he, q', hT⟩ => by
    have hTU := (tn_below hMU.out.is hV).trans hT
    obtain ⟨_, k2⟩ := hTU.free hN0.out hNX
    refine ⟨he, ⟨?_, cell_of hT.is.p0 rfl, ?_, ?_⟩, Lib.hid ⟨q', hTU⟩⟩
    · have := cell_of hT.is.p0 (j := 4) rfl
      rw [← hT.pls.2.1]; exact this
    · rw [World.cell?_of_block (a := ⟨N, 2, none⟩) k2]; exact i2
    · rw [World.cell?_of_block (a := ⟨N, 3, none⟩) k2]; exact i3
  have hUX : X < U.heap.size := hUlt
  clear h0 hMd hO c2 cg i0 i1 hbk hUlt hXe sU hNe hN0 hNX hnn
  go_upto_region 1 with fail
  go_region_held3 (fun W' => W'.cell? ⟨p, 4, none⟩ = some (.pointer (some ⟨q.pt, 0, none⟩)) ∧ W'.cell? ⟨p, 6, none⟩ = some (.int .i64 M.ck) ∧ W'.cell? ⟨N, 2, none⟩ = some (.int .i64 b) ∧ W'.cell? ⟨N, 3, none⟩ = some (.int .i64 c)) (first | exact ⟨c4, c6, i2, i3⟩ | go_keep | assumption) (first | (go_at_call 17; ((with_reducible refine (cl.out _).mono ?_); rintro e wz ⟨rfl, rfl⟩)) | (go_at_call 66; ((with_reducible refine (ca.out _ (by repeat (first | exact Below.refl _ _ | refine below_drewN ?_ _ | refine Below.drew ?_))).mono ?_); rintro e wz ⟨rfl, hkz, hT0⟩)))
  all_goals
    obtain ⟨q2, hT⟩ := hT0.out
    have hTw := Lib.hid (hMU.out.trans hT)
    have hO : Hid (U.heap[X]? = some (.cells #[.int .i64 0, .int .i64 0, .bool false] 59 (0, 0))) := hOU
    clear ca cl hT0 hMU hOU c4 c6 i2 i3 hkz
    obtain ⟨hn2, hX2⟩ := hT.free hn0.out hUX
    obtain ⟨t0, t1, t2, f0, f1, f2, kX, hfin⟩ := hTw.out.told (v := 0) (ts := 3) (ft := false) (hX2.trans hO.out) hX hn2
    clear hT hX2 hn2 hO hTw
    go_wp2_with fail
    refine bodyPost_ret (results_cell_row (by rfl) _ _ X 59 _ (0, 0) _ rfl kX Tryd.underlying59 rfl (by kernel_rfl)) rfl ?_
    exact ⟨rfl, _, hfin.out⟩
end Md
end Go.Proofs.YtdhkakjiahkjnaaDoor
/- The model: one goroutine more, one object more. -/
namespace Go.Proofs.YtdhkakjiahkjnaaDoor
open Go.RowKit Go.Lib Fx Ho Gr
set_option linter.unusedVariables false
namespace Md
open Cd (Ins zi ca c4)
variable {B w w' : World} {fs : List (List Ins)} {p : Nat} {q q' : Pl} {M M' : Mo} {H H' : Home} {g a b c n i : Nat} {r : Gor}
theorem eltG : Elt Tryd.prog 47 45 1 8 (.pointer none) := ⟨Tryd.underlying47, by kernel_rfl, rfl, by decide, by decide⟩
theorem eltO : Elt Tryd.prog 51 23 1 24 (.slice none 0 0) := ⟨Tryd.underlying51, by kernel_rfl, rfl, by decide, by decide⟩
/-- One goroutine more: its record lies at bk, above all that is the model's. -/
theorem IsM.addG {w0 : World} (h0 : IsM B w0 fs p q M) (hb0 : Below w0.heap.size w0 w) {bk : Nat} (hb1 : w0.heap.size ≤ bk) (hbk : w.heap[bk]? = some (.cells (gcl r).toArray 56 (0, 0))) {v8 : Value} {w8 : World} (g1 : GRow 1 w8 v8 (M.gs.length + 1) (q.bs.map ptr ++ [ptr bk])) (g2 : Wrote (fun k => q.gv.ownBlock = some k) w (fun k => v8.ownBlock = some k) w8) :
    w8.cell? ⟨p, 2, none⟩ = some q.gv ∧ w8.frozen? ⟨p, 2, none⟩ = false ∧ Hid (Tn B w0 fs p q (w8.setCell ⟨p, 2, none⟩ v8) { q with gv := v8, bs := q.bs ++ [bk] } { M with gs := M.gs ++ [r] }) := by
  have h := h0.below hb0
  have hlow : ∀ i k, i < 8 → hm p q i k → k < bk := fun i k hi hk => by have := (h0.ap.low i k hi hk).2; omega
  have hB : B.heap.size ≤ bk := by have := h0.bel.size; omega
  have hgp : q.gv.ownBlock ≠ some p := fun e => by have := h.ap.off 4 0 p (by omega) (by omega) (.inl e) rfl; omega
  have hpl := block_lt h.p0
  have hp8 : w8.heap[p]? = _ := (g2.block p hpl hgp).trans h.p0
  have hvp : v8.ownBlock ≠ some p := fun e => (g2.home p e).elim hgp (fun e2 => by omega)
  have w2 : Wrote (fun k => k = p) w8 (fun k => k = p) (w8.setCell ⟨p, 2, none⟩ v8) := wrote_setCell (a := ⟨p, 2, none⟩) rfl rfl rfl rfl rfl
  have hw : Wrote (fun k => k = p ∨ q.gv.ownBlock = some k) w (fun k => k = p ∨ v8.ownBlock = some k) (w8.setCell ⟨p, 2, none⟩ v8) :=
    ⟨w2.os.trans g2.os, w2.tape.trans g2.tape, w2.output.trans g2.output, Nat.le_trans g2.size w2.size, fun k hk hn => (w2.block k (Nat.lt_of_lt_of_le hk g2.size) (fun e => hn (.inl e))).trans (g2.block k hk (fun e => hn (.inr e))), fun k hk => hk.elim (fun e => .inl (.inl e)) (fun e => (g2.home k e).imp .inr (fun e => e))⟩
  have hH : ∀ k, (k = p ∨ q.gv.ownBlock = some k) → ∃ i, i < 8 ∧ (i = 0 ∨ i = 4) ∧ hm p q i k := fun k e => e.elim (fun e => ⟨0, by omega, .inl rfl, e⟩) (fun e => ⟨4, by omega, .inr rfl, .inl e⟩)
  have no := fun j hj hI => h.rest (H := fun k => k = p ∨ q.gv.ownBlock = some k) (fun i => i = 0 ∨ i = 4) hH (j := j) hj hI
  have hl := h.p4.len
  have hbw := block_lt hbk
  have hnb : ∀ i k, i < 8 → hm p q i k → k ≠ bk := fun i k hi hk e => by have := hlow i k hi hk; omega
  have hbn : ¬ (bk = p ∨ q.gv.ownBlock = some bk) := fun e => by
    obtain ⟨i, hi, _, hk⟩ := hH bk e
    exact hnb i bk hi hk rfl
  have his : IsM B (w8.setCell ⟨p, 2, none⟩ v8) fs p { q with gv := v8, bs := q.bs ++ [bk] } { M with gs := M.gs ++ [r] } := by
    refine ⟨?_, h.p1.wrote hw (no 1 (by omega) (by omega)), h.p2.wrote hw (no 2 (by omega) (by omega)), h.p3.wrote hw (no 3 (by omega) (by omega)), ⟨?_, ?_, fun i hi => ?_, ?_, fun k hk hm2 => ?_⟩, h.p5.wrote hw (no 5 (by omega) (by omega)), h.p6.wrote hw (no 6 (by omega) (by omega)), h.p7.wrote hw (no 7 (by omega) (by omega)), ?_, h.belowW hw (fun k e => by obtain ⟨i, hi, _, hk⟩ := hH k e; exact ⟨i, hi, hk⟩)⟩
    · show (w8.setCell ⟨p, 2, none⟩ v8).heap[p]? = _
      rw [heap_setCell_same _ p 2 _ _ v8 hp8]; rfl
    · show (q.bs ++ [bk]).length = (M.gs ++ [r]).length
      rw [List.length_append, List.length_append, hl]; rfl
    · show GRow 1 _ v8 (M.gs ++ [r]).length ((q.bs ++ [bk]).map ptr)
      rw [List.length_append, List.map_append]
      exact g1.wrote w2 (fun k hk e => hvp (by rw [hk, e]))
    · have hi : i < (M.gs ++ [r]).length := hi
      rw [List.length_append, List.length_singleton] at hi
      show (w8.setCell ⟨p, 2, none⟩ v8).heap[(q.bs ++ [bk]).getD i 0]? = some (.cells (gcl ((M.gs ++ [r]).getD i g0)).toArray _ (0, 0))
      rcases Nat.lt_or_ge i M.gs.length with e | e
      · rw [List.getD_eq_getElem?_getD (l := q.bs ++ [bk]), List.getElem?_append_left (by omega), ← List.getD_eq_getElem?_getD, List.getD_eq_getElem?_getD (l := M.gs ++ [r]), List.getElem?_append_left e, ← List.getD_eq_getElem?_getD]
        refine (hw.block _ (block_lt (h.p4.cel i e)) (fun e2 => ?_)).trans (h.p4.cel i e)
        rcases e2 with e2 | e2
        · have := h.ap.off 4 0 p (by omega) (by omega) (e2 ▸ h.gat e) rfl; omega
        · exact h.p4.off _ e2 (bs_in hl e)
      · obtain rfl : i = M.gs.length := by omega
        rw [List.getD_eq_getElem?_getD (l := q.bs ++ [bk]), List.getElem?_append_right (by omega), hl, Nat.sub_self, List.getD_eq_getElem?_getD (l := M.gs ++ [r]), List.getElem?_append_right (Nat.le_refl _), Nat.sub_self]
        exact (hw.block bk hbw hbn).trans hbk
    · show (q.bs ++ [bk]).Nodup
      refine List.nodup_append.2 ⟨h.p4.nd, by simp, fun x hx y hy => ?_⟩
      rw [List.mem_singleton] at hy
      subst hy
      exact hnb 4 x (by omega) (.inr hx)
    · have hm2 : k ∈ q.bs ++ [bk] := hm2
      rcases g2.home k hk with e | e
      · rcases List.mem_append.1 hm2 with e2 | e2
        · exact h.p4.off k e e2
        · rw [List.mem_singleton] at e2
          exact hnb 4 k (by omega) (.inl e) e2
      · rcases List.mem_append.1 hm2 with e2 | e2
        · have := (h.ap.low 4 k (by omega) (.inr e2)).2; omega
        · rw [List.mem_singleton] at e2; omega
    · have hap : Ap (hm p q) B.heap.size bk := ⟨h.ap.off, fun i k hi hk => ⟨(h.ap.low i k hi hk).1, hlow i k hi hk⟩⟩
      refine hap.turn (fun i => i = 4) (by have := hw.size; omega) hB (fun j k hj hn hk => by
        rcases (show j = 0 ∨ j = 1 ∨ j = 2 ∨ j = 3 ∨ j = 4 ∨ j = 5 ∨ j = 6 ∨ j = 7 by omega) with rfl | rfl | rfl | rfl | rfl | rfl | rfl | rfl <;> first | exact hk | exact absurd rfl hn) (fun i k hi e hk => ?_) (fun i j k hi hj e1 e2 _ _ _ => e1.trans e2.symm)
      subst e
      have hk : v8.ownBlock = some k ∨ k ∈ q.bs ++ [bk] := hk
      have hs := hw.size
      rcases hk with e | e
      · exact ⟨(g2.home k e).imp .inl (fun e => by omega), by have := g1.lt e; have := w2.size; omega⟩
      · rcases List.mem_append.1 e with e | e
        · exact ⟨.inl (.inr e), by have := (h.ap.low 4 k (by omega) (.inr e)).2; omega⟩
        · rw [List.mem_singleton] at e
          exact ⟨.inr (by omega), by omega⟩
  have hs0 := hb0.size
  refine ⟨cell_of hp8 rfl, frozen_of_row _ _ _ _ _ hp8, Lib.hid ⟨his, fun i k hi hk => ?_, fun k hk hn => (hw.block k (by omega) (fun e => by obtain ⟨i, hi, _, hk2⟩ := hH k e; exact hn i hi hk2)).trans (hb0.block k hk), Nat.le_trans hs0 hw.size, ⟨rfl, rfl, rfl⟩, h0.bel.size⟩⟩
  by_cases e : i = 4
  · subst e
    have hk : v8.ownBlock = some k ∨ k ∈ q.bs ++ [bk] := hk
    rcases hk with e | e
    · exact (g2.home k e).imp (fun e => ⟨4, by omega, .inl e⟩) (fun e => by omega)
    · rcases List.mem_append.1 e with e | e
      · exact .inl ⟨4, by omega, .inr e⟩
      · rw [List.mem_singleton] at e
        exact .inr (by omega)
  · refine .inl ⟨i, hi, ?_⟩
    rcases (show i = 0 ∨ i = 1 ∨ i = 2 ∨ i = 3 ∨ i = 4 ∨ i = 5 ∨ i = 6 ∨ i = 7 by omega) with rfl | rfl | rfl | rfl | rfl | rfl | rfl | rfl <;> first | exact hk | exact absurd rfl e
/-- One object more: its slots are the row ov, in a block of its own, above all that is the model's. -/
theorem IsM.addO {w0 : World} (h0 : IsM B w0 fs p q M) (hb0 : Below w0.heap.size w0 w) {ov : Value} {x : List Int} (hov : GRow 1 w ov x.length (cells x)) (hb1 : ∀ k, ov.ownBlock = some k → w0.heap.size ≤ k) {v8 : Value} {w8 : World} (g1 : GRow 1 w8 v8 (M.ob.length + 1) (q.os ++ [ov])) (g2 : Wrote (fun k => q.obv.ownBlock = some k) w (fun k => v8.ownBlock = some k) w8) :
    w8.cell? ⟨p, 8, none⟩ = some q.obv ∧ w8.frozen? ⟨p, 8, none⟩ = false ∧ Hid (Tn B w0 fs p q (w8.setCell ⟨p, 8, none⟩ v8) { q with obv := v8, os := q.os ++ [ov] } { M with ob := M.ob ++ [x] }) := by
  have h := h0.below hb0
  have hlow : ∀ i k, i < 8 → hm p q i k → k < w0.heap.size := fun i k hi hk => (h0.ap.low i k hi hk).2
  have hB : B.heap.size ≤ w0.heap.size := h0.bel.size
  have hgp : q.obv.ownBlock ≠ some p := fun e => by have := h.ap.off 5 0 p (by omega) (by omega) (.inl e) rfl; omega
  have hpl := block_lt h.p0
  have hp8 : w8.heap[p]? = _ := (g2.block p hpl hgp).trans h.p0
  have hvp : v8.ownBlock ≠ some p := fun e => (g2.home p e).elim hgp (fun e2 => by omega)
  have w2 : Wrote (fun k => k = p) w8 (fun k => k = p) (w8.setCell ⟨p, 8, none⟩ v8) := wrote_setCell (a := ⟨p, 8, none⟩) rfl rfl rfl rfl rfl
  have hw : Wrote (fun k => k = p ∨ q.obv.ownBlock = some k) w (fun k => k = p ∨ v8.ownBlock = some k) (w8.setCell ⟨p, 8, none⟩ v8) :=
    ⟨w2.os.trans g2.os, w2.tape.trans g2.tape, w2.output.trans g2.output, Nat.le_trans g2.size w2.size, fun k hk hn => (w2.block k (Nat.lt_of_lt_of_le hk g2.size) (fun e => hn (.inl e))).trans (g2.block k hk (fun e => hn (.inr e))), fun k hk => hk.elim (fun e => .inl (.inl e)) (fun e => (g2.home k e).imp .inr (fun e => e))⟩
  have hH : ∀ k, (k = p ∨ q.obv.ownBlock = some k) → ∃ i, i < 8 ∧ (i = 0 ∨ i = 5) ∧ hm p q i k := fun k e => e.elim (fun e => ⟨0, by omega, .inl rfl, e⟩) (fun e => ⟨5, by omega, .inr rfl, .inl e⟩)
  have no := fun j hj hI => h.rest (H := fun k => k = p ∨ q.obv.ownBlock = some k) (fun i => i = 0 ∨ i = 5) hH (j := j) hj hI
  have hl := h.p5.len
  have hs0 := hb0.size
  have hnb : ∀ i k, i < 8 → hm p q i k → ov.ownBlock ≠ some k := fun i k hi hk e => by have := hlow i k hi hk; have := hb1 k e; omega
  have hbn : ∀ k, ov.ownBlock = some k → ¬ (k = p ∨ q.obv.ownBlock = some k) := fun k hk e => by
    obtain ⟨i, hi, _, hk2⟩ := hH k e
    exact hnb i k hi hk2 hk
  have o1 : ∀ i, i < M.ob.length → (q.os ++ [ov]).getD i .nilFunc = q.os.getD i .nilFunc := fun i hi => by rw [List.getD_eq_getElem?_getD, List.getD_eq_getElem?_getD, List.getElem?_append_left (by omega)]
  have o2 : (q.os ++ [ov]).getD M.ob.length .nilFunc = ov := by rw [List.getD_eq_getElem?_getD, List.getElem?_append_right (by omega), hl, Nat.sub_self]; rfl
  have m1 : ∀ i, i < M.ob.length → (M.ob ++ [x]).getD i [] = M.ob.getD i [] := fun i hi => by rw [List.getD_eq_getElem?_getD, List.getD_eq_getElem?_getD, List.getElem?_append_left hi]
  have m2 : (M.ob ++ [x]).getD M.ob.length [] = x := by rw [List.getD_eq_getElem?_getD, List.getElem?_append_right (Nat.le_refl _), Nat.sub_self]; rfl
  have ml : (M.ob ++ [x]).length = M.ob.length + 1 := by rw [List.length_append]; rfl
  have hin : ∀ i k, i < M.ob.length → (q.os.getD i .nilFunc).ownBlock = some k → hm p q 5 k := fun i k hi hk => .inr ⟨i, by omega, hk⟩
  have his : IsM B (w8.setCell ⟨p, 8, none⟩ v8) fs p { q with obv := v8, os := q.os ++ [ov] } { M with ob := M.ob ++ [x] } := by
    refine ⟨?_, h.p1.wrote hw (no 1 (by omega) (by omega)), h.p2.wrote hw (no 2 (by omega) (by omega)), h.p3.wrote hw (no 3 (by omega) (by omega)), h.p4.wrote hw (no 4 (by omega) (by omega)), ⟨?_, ?_, fun i hi => ?_, fun i j k hi hj h1 h2 => ?_, fun i k hi hk e => ?_⟩, h.p6.wrote hw (no 6 (by omega) (by omega)), h.p7.wrote hw (no 7 (by omega) (by omega)), ?_, h.belowW hw (fun k e => by obtain ⟨i, hi, _, hk⟩ := hH k e; exact ⟨i, hi, hk⟩)⟩
    · show (w8.setCell ⟨p, 8, none⟩ v8).heap[p]? = _
      rw [heap_setCell_same _ p 8 _ _ v8 hp8]; rfl
    · show (q.os ++ [ov]).length = (M.ob ++ [x]).length
      rw [List.length_append, ml, hl]; rfl
    · show GRow 1 _ v8 (M.ob ++ [x]).length (q.os ++ [ov])
      rw [ml]
      exact g1.wrote w2 (fun k hk e => hvp (by rw [hk, e]))
    · have hi : i < (M.ob ++ [x]).length := hi
      rw [ml] at hi
      show GRow 1 _ ((q.os ++ [ov]).getD i .nilFunc) ((M.ob ++ [x]).getD i []).length (cells ((M.ob ++ [x]).getD i []))
      rcases Nat.lt_or_ge i M.ob.length with e | e
      · rw [o1 i e, m1 i e]
        exact (h.p5.cel i e).wrote hw (fun k hk e2 => e2.elim (fun e2 => by have := h.ap.off 5 0 k (by omega) (by omega) (hin i k e hk) e2; omega) (fun e2 => h.p5.off i k e hk e2))
      · obtain rfl : i = M.ob.length := by omega
        rw [o2, m2]
        exact hov.wrote hw (fun k hk => hbn k hk)
    · have hi : i < (M.ob ++ [x]).length := hi
      have hj : j < (M.ob ++ [x]).length := hj
      rw [ml] at hi hj
      have h1 : ((q.os ++ [ov]).getD i .nilFunc).ownBlock = some k := h1
      have h2 : ((q.os ++ [ov]).getD j .nilFunc).ownBlock = some k := h2
      rcases Nat.lt_or_ge i M.ob.length with e | e <;> rcases Nat.lt_or_ge j M.ob.length with e' | e'
      · rw [o1 i e] at h1; rw [o1 j e'] at h2
        exact h.p5.nd i j k e e' h1 h2
      · obtain rfl : j = M.ob.length := by omega
        rw [o1 i e] at h1; rw [o2] at h2
        exact absurd h2 (hnb 5 k (by omega) (hin i k e h1))
      · obtain rfl : i = M.ob.length := by omega
        rw [o1 j e'] at h2; rw [o2] at h1
        exact absurd h1 (hnb 5 k (by omega) (hin j k e' h2))
      · omega
    · have hi : i < (M.ob ++ [x]).length := hi
      rw [ml] at hi
      have hk : ((q.os ++ [ov]).getD i .nilFunc).ownBlock = some k := hk
      have e : v8.ownBlock = some k := e
      rcases Nat.lt_or_ge i M.ob.length with e1 | e1
      · rw [o1 i e1] at hk
        rcases g2.home k e with e2 | e2
        · exact h.p5.off i k e1 hk e2
        · have := (h.ap.low 5 k (by omega) (hin i k e1 hk)).2; omega
      · obtain rfl : i = M.ob.length := by omega
        rw [o2] at hk
        rcases g2.home k e with e2 | e2
        · exact hnb 5 k (by omega) (.inl e2) hk
        · have := hov.lt hk; omega
    · refine h0.ap.turn (fun i => i = 5) (by have := hw.size; omega) hB (fun j k hj hn hk => by
        rcases (show j = 0 ∨ j = 1 ∨ j = 2 ∨ j = 3 ∨ j = 4 ∨ j = 5 ∨ j = 6 ∨ j = 7 by omega) with rfl | rfl | rfl | rfl | rfl | rfl | rfl | rfl <;> first | exact hk | exact absurd rfl hn) (fun i k hi e hk => ?_) (fun i j k hi hj e1 e2 _ _ _ => e1.trans e2.symm)
      subst e
      have hk : v8.ownBlock = some k ∨ ∃ j, j < (q.os ++ [ov]).length ∧ ((q.os ++ [ov]).getD j .nilFunc).ownBlock = some k := hk
      have hs := hw.size
      rcases hk with e | ⟨j, hj, e⟩
      · exact ⟨(g2.home k e).imp .inl (fun e => by omega), by have := g1.lt e; have := w2.size; omega⟩
      · rw [List.length_append, List.length_singleton, hl] at hj
        rcases Nat.lt_or_ge j M.ob.length with e1 | e1
        · rw [o1 j e1] at e
          exact ⟨.inl (hin j k e1 e), by have := hlow 5 k (by omega) (hin j k e1 e); omega⟩
        · obtain rfl : j = M.ob.length := by omega
          rw [o2] at e
          exact ⟨.inr (hb1 k e), by have := hov.lt e; omega⟩
  refine ⟨cell_of hp8 rfl, frozen_of_row _ _ _ _ _ hp8, Lib.hid ⟨his, fun i k hi hk => ?_, fun k hk hn => (hw.block k (by omega) (fun e => by obtain ⟨i, hi, _, hk2⟩ := hH k e; exact hn i hi hk2)).trans (hb0.block k hk), Nat.le_trans hs0 hw.size, ⟨rfl, rfl, rfl⟩, h0.bel.size⟩⟩
  by_cases e : i = 5
  · subst e
    have hk : v8.ownBlock = some k ∨ ∃ j, j < (q.os ++ [ov]).length ∧ ((q.os ++ [ov]).getD j .nilFunc).ownBlock = some k := hk
    rcases hk with e | ⟨j, hj, e⟩
    · exact (g2.home k e).imp (fun e => ⟨5, by omega, .inl e⟩) (fun e => by omega)
    · rw [List.length_append, List.length_singleton, hl] at hj
      rcases Nat.lt_or_ge j M.ob.length with e1 | e1
      · rw [o1 j e1] at e
        exact .inl ⟨5, by omega, hin j k e1 e⟩
      · obtain rfl : j = M.ob.length := by omega
        rw [o2] at e
        exact .inr (hb1 k e)
  · refine .inl ⟨i, hi, ?_⟩
    rcases (show i = 0 ∨ i = 1 ∨ i = 2 ∨ i = 3 ∨ i = 4 ∨ i = 5 ∨ i = 6 ∨ i = 7 by omega) with rfl | rfl | rfl | rfl | rfl | rfl | rfl | rfl <;> first | exact hk | exact absurd rfl e
end Md
end Go.Proofs.YtdhkakjiahkjnaaDoor
/- The model: begin, spawn. -/
namespace Go.Proofs.YtdhkakjiahkjnaaDoor
open Go.RowKit Go.Lib Fx Ho Gr
set_option linter.unusedVariables false
namespace Md
open Cd (Ins zi ca c4)
variable {B w w' : World} {fs : List (List Ins)} {p : Nat} {q q' : Pl} {M M' : Mo} {H H' : Home} {g a b c n i : Nat} {r : Gor}
/-- A goroutine that begins. -/
def fresh (f : Nat) (first : Int) : Gor := ⟨f, 0, 0, first :: List.replicate 15 0⟩
set_option maxRecDepth 100000 in
theorem begin_any (h : IsM B w fs p q M) (hs : M.st.length < 1024) (hgl : M.gs.length ≤ 2000) (f : Nat) (first : Int) : Calls Tryd.prog 27 #[.pointer (some ⟨p, 0, none⟩), .int .i64 f, .int .i64 first] w (Mt (.tuple #[.int .i64 M.st.length, .bool true]) B w fs p q { M with st := M.st ++ [1], gs := M.gs ++ [fresh f first] }) := by
  have c3 : w.cell? ⟨p, 3, none⟩ = some (.pointer (some ⟨q.ps, 0, none⟩)) := cell_of h.p0 rfl
  have cs := m_spawn h hs
  clear h
  go_enter Tryd.func27, Tryd.ntmps27
  go_wp2_with fail
  with_reducible refine Calls.mono cs ?_
  rintro e w1 ⟨rfl, q1, hT⟩
  clear cs c3
  replace hT := Lib.hid hT
  go_upto_region 6 with fail
  obtain ⟨W, hW⟩ : ∃ W, w1.alloc (.cells #[.int .i64 (f : Int), .int .i64 0, .int .i64 0, .int .i64 first, .int .i64 0, .int .i64 0, .int .i64 0, .int .i64 0, .int .i64 0, .int .i64 0, .int .i64 0, .int .i64 0, .int .i64 0, .int .i64 0, .int .i64 0, .int .i64 0, .int .i64 0, .int .i64 0, .int .i64 0] 56) = W := ⟨_, rfl⟩
  have hb0 : Below w1.heap.size w1 W := by rw [← hW]; exact below_alloc (Below.refl _ _) _
  have hbk : W.heap[w1.heap.size]? = some (.cells (gcl (fresh f first)).toArray 56 (0, 0)) := by rw [← hW]; exact heap_alloc_new w1 _
  rw [hW]
  clear hW
  obtain ⟨bk, hbe⟩ : ∃ k, w1.heap.size = k := ⟨_, rfl⟩
  rw [hbe] at hbk ⊢
  have h1 := hT.out.is.below hb0
  have c2 : W.cell? ⟨p, 2, none⟩ = some q1.gv := cell_of h1.p0 rfl
  obtain ⟨sg, cg, eg⟩ := h1.p4.row.slice
  rw [eg] at c2
  have hrow : Hid (GRow 1 (W.alloc (.cells #[.pointer (some ⟨bk, 0, none⟩)] 45)) (.slice sg M.gs.length cg) M.gs.length (q1.bs.map ptr)) := Lib.hid (by have := h1.p4.row.below (below_alloc (Below.refl W.heap.size W) (.cells #[.pointer (some ⟨bk, 0, none⟩)] 45)); rw [eg] at this; exact this)
  have hsrc : Hid (Src Tryd.prog 1 47 (.slice (some ⟨W.heap.size, 0, none⟩) 1 1) 1 [.pointer (some ⟨bk, 0, none⟩)] (W.alloc (.cells #[.pointer (some ⟨bk, 0, none⟩)] 45))) := Lib.hid (src_new (s := 1) (A := #[.pointer (some ⟨bk, 0, none⟩)]) Tryd.underlying47 rfl (by simp [Value.oneCell']) (heap_alloc_new _ _))
  have hbd : M.gs.length + 1 ≤ 1000000 := by omega
  have key : Hid (∀ v8 w8, GRow 1 w8 v8 (M.gs.length + 1) (q1.bs.map ptr ++ [.pointer (some ⟨bk, 0, none⟩)]) → Wrote (fun k => (Value.slice sg M.gs.length cg).ownBlock = some k) (W.alloc (.cells #[.pointer (some ⟨bk, 0, none⟩)] 45)) (fun k => v8.ownBlock = some k) w8 → (∃ s c, v8 = .slice s (M.gs.length + 1) c) ∧ w8.cell? ⟨p, 2, none⟩ = some (.slice sg M.gs.length cg) ∧ w8.frozen? ⟨p, 2, none⟩ = false ∧ Hid (∃ q', Tn B w fs p q (w8.setCell ⟨p, 2, none⟩ v8) q' { M with st := M.st ++ [1], gs := M.gs ++ [fresh f first] })) := Lib.hid fun v8 w8 g1 g2 => by
    have hbA := below_alloc hb0 (.cells #[.pointer (some ⟨bk, 0, none⟩)] 45)
    have hbk2 := ((below_alloc (Below.refl W.heap.size W) (.cells #[.pointer (some ⟨bk, 0, none⟩)] 45)).block _ (block_lt hbk)).trans hbk
    obtain ⟨k0, k1, k2⟩ := hT.out.is.addG (r := fresh f first) hbA (bk := bk) (by omega) hbk2 g1 (by rw [eg]; exact g2)
    rw [eg] at k0
    exact ⟨g1.slice, k0, k1, Lib.hid ⟨_, hT.out.trans k2.out⟩⟩
  clear h1 hb0 hbk eg hbe hT
  go_wp2_with (at_builtin; refine wpList_append_g rfl (.tmp 33) (.tmp 35) rfl rfl eltG hrow.out rfl rfl hsrc.out hbd ?_; intro v8 w8 g1 g2; have hk := key.out v8 w8 g1 g2; obtain ⟨⟨s8, c8, rfl⟩, hc8, hf8, hfin⟩ := hk; clear key g1 g2 hrow hsrc)
  go_ret2
  exact ⟨rfl, hfin.out⟩
set_option maxRecDepth 100000 in
theorem begin_full (h : IsM B w fs p q M) (hs : M.st.length = 1024) (f : Nat) (first : Int) : Calls Tryd.prog 27 #[.pointer (some ⟨p, 0, none⟩), .int .i64 f, .int .i64 first] w (Mt (.tuple #[.int .i64 0, .bool false]) B w fs p q M) := by
  have c3 : w.cell? ⟨p, 3, none⟩ = some (.pointer (some ⟨q.ps, 0, none⟩)) := cell_of h.p0 rfl
  have cs := St.spawn_full w h.p1 hs
  have hfin := Lib.hid (tn_refl h)
  clear h
  go_enter Tryd.func27, Tryd.ntmps27
  go_wp2_with fail
  with_reducible refine Calls.mono cs ?_
  rintro e w1 ⟨rfl, rfl⟩
  clear cs c3
  go_wp2_with fail
  go_ret2
  exact ⟨rfl, _, hfin.out⟩
end Md
end Go.Proofs.YtdhkakjiahkjnaaDoor
