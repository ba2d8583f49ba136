/- A script's reader: a program; what lies between two functions. -/
import Derived.Test.YtapkcjbfflgplaaDoorReadG
import Derived.Test.YtapkcjbfflgplaaDoorGRow
import Derived.Deep.RegionLaw
namespace Go.Proofs.YtapkcjbfflgplaaDoor
open Go.RowKit Go.Lib Fx Ho Gr
set_option linter.unusedVariables false
namespace Cd
variable {w w' W wr : World} {v fv : Value} {G nf len n : Int} {fs : List (List Ins)} {R p q j M : Nat} {zs : List Int} {L l : List Ins} {Bs : List Nat}
/-- What reading k functions comes to, and where it stands then. -/
def fsE (zs : List Int) (G nf : Int) : Nat → Except Nat (List (List Ins) × Nat)
  | 0 => .ok ([], 2)
  | k + 1 => (fsE zs G nf k).bind fun r => (fnE zs r.2 G nf).bind fun l => .ok (r.1 ++ [l], r.2 + 1 + 4 * l.length)
/-- What a script means: a program, or the first byte that is wrong. -/
def progE (zs : List Int) : Except Nat (Int × List (List Ins)) :=
  (num zs 0 1 16).bind fun nf => (num zs 1 0 32).bind fun G => (fsE zs G nf nf.toNat).bind fun r => if r.2 < zs.length then .error r.2 else .ok (G, r.1)
theorem fsE_err {k m : Nat} (h : k ≤ m) (e : fsE zs G nf k = .error q) : fsE zs G nf m = .error q := by
  induction m with
  | zero =>
    have hk : k = 0 := by omega
    subst hk
    exact e
  | succ m ih =>
    rcases Nat.lt_or_ge k (m + 1) with g | g
    · unfold fsE
      rw [ih (by omega)]; rfl
    · have hk : k = m + 1 := by omega
      subst hk
      exact e
theorem fsE_len : ∀ k r, fsE zs G nf k = .ok r → r.1.length = k
  | 0, r, h => by cases h; rfl
  | k + 1, r, h => by
    unfold fsE at h
    cases e : fsE zs G nf k with
    | error q => rw [e] at h; cases h
    | ok s =>
      rw [e] at h
      have h : (fnE zs s.2 G nf).bind (fun l => Except.ok (s.1 ++ [l], s.2 + 1 + 4 * l.length)) = .ok r := h
      cases e2 : fnE zs s.2 G nf with
      | error q => rw [e2] at h; cases h
      | ok l =>
        rw [e2] at h
        cases h
        have := fsE_len k s e
        simp; omega
def hd (Bs : List Nat) (fs : List (List Ins)) : List Value := List.zipWith (fun B l => Value.slice (some ⟨B, 0, none⟩) l.length l.length) Bs fs
theorem hd_app {A : List Nat} {F : List (List Ins)} (h : A.length = F.length) (B : Nat) (l : List Ins) : hd (A ++ [B]) (F ++ [l]) = hd A F ++ [.slice (some ⟨B, 0, none⟩) l.length l.length] := by
  unfold hd
  rw [List.zipWith_append h]; rfl
theorem hd_len (h : Bs.length = fs.length) : (hd Bs fs).length = fs.length := by unfold hd; rw [List.length_zipWith]; omega
theorem hd_get (h : Bs.length = fs.length) {i : Nat} (hi : i < fs.length) : (hd Bs fs)[i]? = some (.slice (some ⟨Bs.getD i 0, 0, none⟩) (fs.getD i []).length (fs.getD i []).length) := by
  unfold hd
  rw [List.getElem?_zipWith, List.getElem?_eq_getElem (show i < Bs.length by omega), List.getElem?_eq_getElem hi, List.getD_eq_getElem?_getD, List.getD_eq_getElem?_getD, List.getElem?_eq_getElem (show i < Bs.length by omega), List.getElem?_eq_getElem hi]
  rfl
/-- The functions that have been read: a row of slices, each with a block of its own; nothing of it at M or below lo. -/
structure Fw (lo M : Nat) (wr : World) (fv : Value) (fs : List (List Ins)) (Bs : List Nat) : Prop where
  len : Bs.length = fs.length
  row : GRow 1 wr fv fs.length (hd Bs fs)
  ins : ∀ i, i < fs.length → IBlk wr (Bs.getD i 0) (fs.getD i []) ∧ (fs.getD i []).length ≤ 64
  sep : ∀ B, B ∈ Bs → B ≠ M ∧ lo ≤ B ∧ fv.ownBlock ≠ some B
  fvs : ∀ k, fv.ownBlock = some k → k ≠ M ∧ lo ≤ k
variable {lo : Nat}
theorem getD_mem {i : Nat} (h : i < Bs.length) : Bs.getD i 0 ∈ Bs := by
  rw [List.getD_eq_getElem?_getD, List.getElem?_eq_getElem h]; exact List.getElem_mem h
theorem Fw.wrote {H H' : Home} (h : Fw lo M wr fv fs Bs) (hw : Wrote H wr H' w') (hn : ∀ k, H k → k = M ∨ k < lo) : Fw lo M w' fv fs Bs := by
  refine ⟨h.len, h.row.wrote hw (fun k hk hh => ?_), fun i hi => ⟨?_, (h.ins i hi).2⟩, h.sep, h.fvs⟩
  · have := h.fvs k hk
    rcases hn k hh with e | e <;> omega
  · have h1 := (h.ins i hi).1
    have h2 := h.sep _ (getD_mem (show i < Bs.length by rw [h.len]; exact hi))
    exact (hw.block _ (block_lt h1) (fun hh => by rcases hn _ hh with e | e <;> omega)).trans h1
theorem Fw.below (h : Fw lo M wr fv fs Bs) (hb : Below wr.heap.size wr w') : Fw lo M w' fv fs Bs := h.wrote (H := fun _ => False) (Wrote.of_below hb) (fun k h => h.elim)
/-- One function more. -/
theorem Fw.more {v8 : Value} {w8 : World} {B : Nat} (h : Fw lo M wr fv fs Bs) (hB : IBlk wr B l) (hl : l.length ≤ 64) (hBM : B ≠ M) (hBl : lo ≤ B) (hBf : fv.ownBlock ≠ some B) (hlo : lo ≤ wr.heap.size) (hM : M < wr.heap.size) (hg : GRow 1 w8 v8 (fs.length + 1) (hd Bs fs ++ [.slice (some ⟨B, 0, none⟩) l.length l.length])) (hw : Wrote (fun k => fv.ownBlock = some k) wr (fun k => v8.ownBlock = some k) w8) : Fw lo M w8 v8 (fs ++ [l]) (Bs ++ [B]) := by
  have hnew : ∀ k, v8.ownBlock = some k → (fv.ownBlock = some k) ∨ wr.heap.size ≤ k := fun k hk => hw.home k hk
  refine ⟨by rw [List.length_append, List.length_append, h.len]; rfl, by rw [hd_app h.len, List.length_append]; exact hg, fun i hi => ?_, fun B' hB' => ?_, fun k hk => ?_⟩
  · rw [List.length_append, List.length_singleton] at hi
    rcases Nat.lt_or_ge i fs.length with e | e
    · have h1 := h.ins i e
      have h2 := h.sep _ (getD_mem (show i < Bs.length by rw [h.len]; exact e))
      have e1 : (Bs ++ [B]).getD i 0 = Bs.getD i 0 := by rw [List.getD_eq_getElem?_getD, List.getD_eq_getElem?_getD, List.getElem?_append_left (by rw [h.len]; exact e)]
      have e2 : (fs ++ [l]).getD i [] = fs.getD i [] := by rw [List.getD_eq_getElem?_getD, List.getD_eq_getElem?_getD, List.getElem?_append_left e]
      rw [e1, e2]
      exact ⟨(hw.block _ (block_lt h1.1) h2.2.2).trans h1.1, h1.2⟩
    · obtain rfl : i = fs.length := by omega
      have e1 : (Bs ++ [B]).getD fs.length 0 = B := by rw [List.getD_eq_getElem?_getD, List.getElem?_append_right (by rw [h.len]; exact Nat.le_refl _), h.len, Nat.sub_self]; rfl
      have e2 : (fs ++ [l]).getD fs.length [] = l := by rw [List.getD_eq_getElem?_getD, List.getElem?_append_right (Nat.le_refl _), Nat.sub_self]; rfl
      rw [e1, e2]
      exact ⟨(hw.block _ (block_lt hB) hBf).trans hB, hl⟩
  · rcases List.mem_append.1 hB' with hm | hm
    · have h2 := h.sep B' hm
      refine ⟨h2.1, h2.2.1, fun e => (hnew B' e).elim h2.2.2 (fun e2 => ?_)⟩
      obtain ⟨i, hi, rfl⟩ := List.getElem_of_mem hm
      have h1 := (h.ins i (by rw [← h.len]; exact hi)).1
      have := block_lt h1
      rw [List.getD_eq_getElem?_getD, List.getElem?_eq_getElem hi] at this
      simp only [Option.getD_some] at this
      omega
    · obtain rfl := List.mem_singleton.1 hm
      have := block_lt hB
      exact ⟨hBM, hBl, fun e => (hnew B' e).elim hBf (fun e2 => by omega)⟩
  · rcases hnew k hk with e | e
    · exact h.fvs k e
    · omega
theorem Fw.frow (h : Fw lo M wr fv fs Bs) (hs : fs.length ≤ 1000000) : FRow wr fv fs := by
  obtain ⟨ao, b, off, cap, rfl, h1, h2, h3, h4⟩ := h.row.cell
  refine ⟨ao, cap, rfl, by omega, fun i hi => ?_⟩
  obtain ⟨rfl, _, _⟩ := h3 (by omega)
  exact ⟨b, off, _, rfl, (h4 i _ (hd_get h.len hi)).1, (h.ins i hi).1.row (by have := (h.ins i hi).2; omega)⟩
theorem eltFn : Elt Tryd.prog 47 30 1 24 (.slice none 0 0) := ⟨Tryd.underlying47, by kernel_rfl, by kernel_rfl, by decide, by decide⟩
theorem src_fn {W : World} {K : Nat} {x : Value} (hx : x.oneCell' = true) (hb : W.heap[K]? = some (.cells #[x] 30 (0, 0))) : Src Tryd.prog 1 47 (.slice (some ⟨K, 0, none⟩) 1 1) 1 [x] W := src_new (s := 1) (A := #[x]) Tryd.underlying47 rfl (by simpa using hx) hb
end Cd
end Go.Proofs.YtapkcjbfflgplaaDoor
