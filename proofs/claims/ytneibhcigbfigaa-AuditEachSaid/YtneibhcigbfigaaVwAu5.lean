/- Audit: views that are spoilt in one way, as mathematics. -/
import Derived.Test.YtneibhcigbfigaaVwAu4
namespace Go.Proofs.Ytneibhcigbfigaa
open Go.RowKit Go.Lib Fx Ho Gr
set_option linter.unusedVariables false
set_option linter.unusedSimpArgs false
namespace Vw
variable {V : Vi} {ps : Int}
theorem lo_no (h : ∀ x, x ∈ rootsL V.gl V.gs → x ∈ ads V.os) (h2 : ∀ o ∈ V.os, ∀ x ∈ o.2.1, x = 0 ∨ x ∈ ads V.os) : ¬ Lo V := by
  rintro ⟨x, hna, h0, hr | ⟨b, _, hs⟩⟩
  · exact hna (h x hr)
  · obtain ⟨o, ho, hx⟩ := slo_mem hs
    exact (h2 o ho x hx).elim h0 hna
/-- A view of nobody. -/
def Vn (ph : Int) (gl : List Int) : Vi := ⟨ph, 0, 0, gl, [], [], 0, 0, 0⟩
theorem vn_obj {ph : Int} {gl : List Int} : ¬ Obj (Vn ph gl) := fun ⟨i, hi, _⟩ => absurd hi (Nat.not_lt_zero i)
theorem vn_tw {ph : Int} {gl : List Int} : ¬ Tw (Vn ph gl) := fun ⟨p, hp⟩ => by
  have : cntR (Vn ph gl).gs p = 0 := rfl
  omega
theorem vn_plc {ph : Int} {gl : List Int} : ¬ Plc ps (Vn ph gl) := fun ⟨i, hi, _⟩ => absurd hi (Nat.not_lt_zero i)
theorem badw_no {ph : Int} : ¬ BadW ph 0 := fun e => e.elim (fun e => by omega) (fun e => by omega)
theorem vn_wrk {ph : Int} {gl : List Int} : ¬ Wrk (Vn ph gl) := fun e => e.elim badw_no fun e => e.elim badw_no badw_no
theorem vn_wh {ph : Int} {gl : List Int} : ¬ Wh (Vn ph gl) := fun ⟨_, x, hx, _⟩ => by
  have := hx.in_.2
  cases this
theorem vn_mkd {ph : Int} {gl : List Int} : ¬ Mkd (Vn ph gl) := fun ⟨_, i, hi, _⟩ => absurd hi (Nat.not_lt_zero i)
theorem vn_num {ph : Int} {gl : List Int} (h0 : 0 ≤ ph) (h3 : ph ≤ 3) : ¬ Num (Vn ph gl) := fun e => by
  rcases e with e | e | e | e | ⟨i, hi, _⟩
  · exact absurd (show ph < 0 from e) (by omega)
  · exact absurd (show 3 < ph from e) (by omega)
  · exact absurd (show (0 : Int) < 0 from e) (by omega)
  · exact absurd (show (0 : Int) < 0 from e) (by omega)
  · exact absurd hi (Nat.not_lt_zero i)
theorem vn_lo {ph : Int} : ¬ Lo (Vn ph []) := lo_no (fun x hx => by cases hx) (fun o ho => by cases ho)
theorem chk0 : (brkN (Vn 0 []) ps 8).headD 0 = 0 := by
  rw [brkN_none fun j hj => ?_]; rfl
  rcases (show j = 0 ∨ j = 1 ∨ j = 2 ∨ j = 3 ∨ j = 4 ∨ j = 5 ∨ j = 6 ∨ j = 7 by omega) with rfl | rfl | rfl | rfl | rfl | rfl | rfl | rfl
  · exact vn_lo
  · exact vn_obj
  · exact vn_tw
  · exact vn_plc
  · exact vn_wrk
  · exact vn_wh
  · exact vn_num (by omega) (by omega)
  · exact vn_mkd
theorem chk64 : (brkN (Vn 0 [64]) ps 8).headD 0 = 1 := brk_first (k := 0) (by omega) (fun j hj => absurd hj (Nat.not_lt_zero j)) ⟨64, fun e => (by cases e), by decide, .inl (mem_roots.2 ⟨by decide, .inl (by show (64 : Int) ∈ [(64 : Int)]; simp)⟩)⟩
theorem chk9 : (brkN (Vn 9 []) ps 8).headD 0 = 7 := brk_first (k := 6) (by omega) (fun j hj => by
  rcases (show j = 0 ∨ j = 1 ∨ j = 2 ∨ j = 3 ∨ j = 4 ∨ j = 5 by omega) with rfl | rfl | rfl | rfl | rfl | rfl
  · exact vn_lo
  · exact vn_obj
  · exact vn_tw
  · exact vn_plc
  · exact vn_wrk
  · exact vn_wh) (.inr (.inl (show (3 : Int) < 9 by omega)))
/-- The view of AuditEach, some of its parts turned. -/
def VE (ph g1 : Int) (n0 : Nat) (st P s0 a1 : Int) (m0 m1 : Bool) (nt : Int) : Vi := ⟨ph, 0, 0, [64, g1], [(2, 0, List.replicate n0 0), (st, P, List.replicate 16 0)], [(64, [s0], m0), (a1, [0, 64], m1)], 0, nt, 0⟩
variable {ph g1 st P s0 a1 nt : Int} {n0 : Nat} {m0 m1 : Bool}
theorem two_cases {P : Nat → Prop} (h0 : P 0) (h1 : P 1) : ∀ i, i < 2 → P i := fun i hi => by
  rcases (show i = 0 ∨ i = 1 by omega) with rfl | rfl
  · exact h0
  · exact h1
theorem ve_roots {x : Int} (h : x ∈ rootsL (VE ph g1 n0 st P s0 a1 m0 m1 nt).gl (VE ph g1 n0 st P s0 a1 m0 m1 nt).gs) : x ≠ 0 ∧ (x = 64 ∨ x = g1) := by
  obtain ⟨h0, h1 | ⟨g, hg, _, hx⟩⟩ := mem_roots.1 h
  · have h1 : x ∈ [64, g1] := h1
    simp at h1
    exact ⟨h0, h1⟩
  · have hg : g ∈ [((2 : Int), (0 : Int), List.replicate n0 (0 : Int)), (st, P, List.replicate 16 0)] := hg
    rw [List.mem_cons, List.mem_singleton] at hg
    exfalso
    rcases hg with rfl | rfl
    · exact h0 (List.eq_of_mem_replicate hx)
    · exact h0 (List.eq_of_mem_replicate hx)
theorem ve_lo (hg : g1 = 0 ∨ g1 = 64 ∨ g1 = a1) (hs : s0 = 0 ∨ s0 = 64 ∨ s0 = a1) : ¬ Lo (VE ph g1 n0 st P s0 a1 m0 m1 nt) := lo_no (fun x hx => by
  obtain ⟨h0, h1⟩ := ve_roots hx
  show x ∈ [64, a1]
  simp
  omega) (fun o ho x hx => by
  have ho : o ∈ [((64 : Int), [s0], m0), (a1, [0, 64], m1)] := ho
  show x = 0 ∨ x ∈ [64, a1]
  simp at ho ⊢
  rcases ho with rfl | rfl
  · have hx : x ∈ [s0] := hx
    simp at hx
    omega
  · have hx : x ∈ [(0 : Int), 64] := hx
    simp at hx
    omega)
theorem ve_lo_yes : Lo (VE ph 69 n0 st P s0 68 m0 m1 nt) := ⟨69, fun e => by
  have e : (69 : Int) ∈ [(64 : Int), 68] := e
  simp at e, by decide, .inl (mem_roots.2 ⟨by decide, .inl (by show (69 : Int) ∈ [(64 : Int), 69]; simp)⟩)⟩
theorem sz1 {a s : Int} {m : Bool} : sz (a, [s], m) = 1 := by
  show Go.Proofs.Ytneibhcigbfigaa.Cl.sizeI (Go.Proofs.Ytneibhcigbfigaa.Cl.ofI ((1 : Nat) : Int)) = 1
  decide
theorem sz2 {a s t : Int} {m : Bool} : sz (a, [s, t], m) = 2 := by
  show Go.Proofs.Ytneibhcigbfigaa.Cl.sizeI (Go.Proofs.Ytneibhcigbfigaa.Cl.ofI ((2 : Nat) : Int)) = 2
  decide
theorem ve_obj : ¬ Obj (VE ph g1 n0 st P s0 68 m0 m1 nt) := fun ⟨i, hi, hb⟩ => by
  have hi : i < 2 := hi
  revert hb
  refine two_cases (P := fun i => BadO (VE ph g1 n0 st P s0 68 m0 m1 nt).os i → False) ?_ ?_ i hi
  · rintro (e | e | ⟨_, e | e⟩)
    · exact absurd (show (64 : Int) < 64 from e) (by omega)
    · exact absurd ((sz1 (a := 64) (s := s0) (m := m0)).symm.trans e) (by omega)
    · exact absurd (show (68 : Int) < 64 from e) (by omega)
    · have e : (68 : Int) - 64 < sz (64, [s0], m0) := e
      rw [sz1] at e
      omega
  · rintro (e | e | ⟨e, _⟩)
    · exact absurd (show (68 : Int) < 64 from e) (by omega)
    · exact absurd ((sz2 (a := 68) (s := 0) (t := 64) (m := m1)).symm.trans e) (by omega)
    · exact absurd (show 1 + 1 < 2 from e) (by omega)
theorem ve_obj_yes : Obj (VE ph g1 n0 st P s0 64 m0 m1 nt) := ⟨0, by show 0 < 2; omega, .inr (.inr ⟨by show 0 + 1 < 2; omega, .inr (by
  show (64 : Int) - 64 < sz (64, [s0], m0)
  rw [sz1]; omega)⟩)⟩
theorem ve_tw (h : st ≠ 2) : ¬ Tw (VE ph g1 n0 st P s0 a1 m0 m1 nt) := fun ⟨p, hp⟩ => by
  have hp : 1 < ([((2 : Int), (0 : Int), List.replicate n0 (0 : Int)), (st, P, List.replicate 16 0)].filter fun g => decide (g.1 = 2 ∧ g.2.1 = p)).length := hp
  rw [List.filter_cons, List.filter_cons] at hp
  simp [h] at hp
  split at hp <;> simp at hp
theorem ve_tw_yes : Tw (VE ph g1 n0 2 0 s0 a1 m0 m1 nt) := ⟨0, by
  show 1 < ([((2 : Int), (0 : Int), List.replicate n0 (0 : Int)), (2, 0, List.replicate 16 0)].filter fun g => decide (g.1 = 2 ∧ g.2.1 = 0)).length
  simp⟩
theorem ve_plc (h1 : 1 ≤ ps) (h : st = 3 ∧ P = -1 ∨ st = 2 ∧ P = 0) : ¬ Plc ps (VE ph g1 n0 st P s0 a1 m0 m1 nt) := fun ⟨i, hi, hb⟩ => by
  have hi : i < 2 := hi
  revert hb
  refine two_cases (P := fun i => ¬ May ps ((VE ph g1 n0 st P s0 a1 m0 m1 nt).gs.getD i g0) → False) ?_ ?_ i hi
  · refine fun e => e ⟨fun _ => ⟨Int.le_refl _, show (0 : Int) < ps by omega⟩, fun e => ?_, fun _ e => absurd rfl e⟩
    exact absurd (show (2 : Int) = 1 from e) (by omega)
  · refine fun e => e ⟨fun e => ?_, fun e => ?_, fun e1 e2 => ?_⟩
    · have e : st = 2 := e
      show 0 ≤ P ∧ P < ps
      omega
    · have e : st = 1 := e
      omega
    · have e2 : st ≠ 2 := e2
      show P = -1
      omega
theorem ve_plc_yes : Plc ps (VE ph g1 n0 3 0 s0 a1 m0 m1 nt) := ⟨1, by show 1 < 2; omega, fun e => by
  have := e.2.2 (show (3 : Int) ≠ 1 by omega) (show (3 : Int) ≠ 2 by omega)
  exact absurd (show (0 : Int) = -1 from this) (by omega)⟩
theorem ve_wrk : ¬ Wrk (VE ph g1 n0 st P s0 a1 m0 m1 0) := fun e => e.elim badw_no fun e => e.elim badw_no badw_no
theorem ve_wrk_yes : Wrk (VE 0 g1 n0 st P s0 a1 m0 m1 1) := .inr (.inl (.inr ⟨show (0 : Int) < 1 by omega, show (0 : Int) ≠ 1 by omega⟩))
theorem ve_wh (h : ph ≠ 2) : ¬ Wh (VE ph g1 n0 st P s0 a1 m0 m1 nt) := fun e => h e.1
theorem ve_wh_yes : Wh (VE 2 0 n0 st P 68 68 true false nt) := by
  have h64 : Rch (rootsL (VE 2 0 n0 st P 68 68 true false nt).gl (VE 2 0 n0 st P 68 68 true false nt).gs) (VE 2 0 n0 st P 68 68 true false nt).os 64 := .root (mem_roots.2 ⟨by decide, .inl (by show (64 : Int) ∈ [(64 : Int), 0]; simp)⟩) (by decide) (by show (64 : Int) ∈ [(64 : Int), 68]; simp)
  exact ⟨rfl, 68, .step h64 (by show (68 : Int) ∈ [(68 : Int)]; simp) (by decide) (by show (68 : Int) ∈ [(64 : Int), 68]; simp), by show mkd [((64 : Int), [68], true), (68, [0, 64], false)] 68 = false; decide⟩
theorem ve_num (h0 : 0 ≤ ph) (h3 : ph ≤ 3) : ¬ Num (VE ph g1 16 st P s0 a1 m0 m1 nt) := fun e => by
  rcases e with e | e | e | e | ⟨i, hi, e⟩
  · exact absurd (show ph < 0 from e) (by omega)
  · exact absurd (show 3 < ph from e) (by omega)
  · exact absurd (show (0 : Int) < 0 from e) (by omega)
  · exact absurd (show (0 : Int) < 0 from e) (by omega)
  · have hi : i < 2 := hi
    revert e
    exact two_cases (P := fun i => ((VE ph g1 16 st P s0 a1 m0 m1 nt).gs.getD i g0).2.2.length ≠ 16 → False) (fun e => e (by show (List.replicate 16 (0 : Int)).length = 16; rfl)) (fun e => e (by show (List.replicate 16 (0 : Int)).length = 16; rfl)) i hi
theorem ve_num_yes : Num (VE ph g1 15 st P s0 a1 m0 m1 nt) := .inr (.inr (.inr (.inr ⟨0, by show 0 < 2; omega, by show (List.replicate 15 (0 : Int)).length ≠ 16; decide⟩)))
theorem ve_mkd (h : ph ≠ 0 ∨ m0 = false ∧ m1 = false) : ¬ Mkd (VE ph g1 n0 st P s0 a1 m0 m1 nt) := fun ⟨e0, i, hi, e⟩ => by
  have e0 : ph = 0 := e0
  have hi : i < 2 := hi
  obtain ⟨rfl, rfl⟩ := h.resolve_left (fun h => h e0)
  revert e
  exact two_cases (P := fun i => ((VE ph g1 n0 st P s0 a1 false false nt).os.getD i o0).2.2 = true → False) (fun e => by cases (show false = true from e)) (fun e => by cases (show false = true from e)) i hi
theorem ve_mkd_yes : Mkd (VE 0 g1 n0 st P s0 a1 m0 true nt) := ⟨rfl, 1, by show 1 < 2; omega, rfl⟩
/-- The spoilt ones. -/
def vk : Nat → Vi
  | 0 => VE 0 69 16 3 (-1) 68 68 false false 0
  | 1 => VE 0 0 16 3 (-1) 0 64 false false 0
  | 2 => VE 0 0 16 2 0 68 68 false false 0
  | 3 => VE 0 0 16 3 0 68 68 false false 0
  | 4 => VE 0 0 16 3 (-1) 68 68 false false 1
  | 5 => VE 2 0 16 3 (-1) 68 68 true false 0
  | 6 => VE 0 0 15 3 (-1) 68 68 false false 0
  | _ => VE 0 0 16 3 (-1) 68 68 false true 0
theorem vk_brk (h1 : 1 ≤ ps) : ∀ k, k < 8 → brkN (vk k) ps 8 = [(k : Int) + 1] := fun k hk => by
  have e3 : (3 : Int) ≠ 2 := by omega
  have z : (0 : Int) ≠ 2 := by omega
  have t2 : (2 : Int) ≠ 0 := by omega
  have p1 : (3 : Int) = 3 ∧ (-1 : Int) = -1 ∨ (3 : Int) = 2 ∧ (-1 : Int) = 0 := .inl ⟨rfl, rfl⟩
  have p2 : (2 : Int) = 3 ∧ (0 : Int) = -1 ∨ (2 : Int) = 2 ∧ (0 : Int) = 0 := .inr ⟨rfl, rfl⟩
  refine brk_one hk (fun j hj hjk => ?_) ?_
  · rcases (show k = 0 ∨ k = 1 ∨ k = 2 ∨ k = 3 ∨ k = 4 ∨ k = 5 ∨ k = 6 ∨ k = 7 by omega) with rfl | rfl | rfl | rfl | rfl | rfl | rfl | rfl <;>
    rcases (show j = 0 ∨ j = 1 ∨ j = 2 ∨ j = 3 ∨ j = 4 ∨ j = 5 ∨ j = 6 ∨ j = 7 by omega) with rfl | rfl | rfl | rfl | rfl | rfl | rfl | rfl <;>
    first
    | exact absurd rfl hjk
    | exact ve_lo (.inl rfl) (.inr (.inr rfl))
    | exact ve_lo (.inl rfl) (.inl rfl)
    | exact ve_obj
    | exact ve_tw e3
    | exact ve_plc h1 p1
    | exact ve_plc h1 p2
    | exact ve_wrk
    | exact ve_wh z
    | exact ve_num (by omega) (by omega)
    | exact ve_mkd (.inr ⟨rfl, rfl⟩)
    | exact ve_mkd (.inl t2)
  · rcases (show k = 0 ∨ k = 1 ∨ k = 2 ∨ k = 3 ∨ k = 4 ∨ k = 5 ∨ k = 6 ∨ k = 7 by omega) with rfl | rfl | rfl | rfl | rfl | rfl | rfl | rfl
    · exact ve_lo_yes
    · exact ve_obj_yes
    · exact ve_tw_yes
    · exact ve_plc_yes
    · exact ve_wrk_yes
    · exact ve_wh_yes
    · exact ve_num_yes
    · exact ve_mkd_yes
theorem v0_brk (h1 : 1 ≤ ps) : brkN (VE 0 0 16 3 (-1) 68 68 false false 0) ps 8 = [] := brkN_none fun j hj => by
  rcases (show j = 0 ∨ j = 1 ∨ j = 2 ∨ j = 3 ∨ j = 4 ∨ j = 5 ∨ j = 6 ∨ j = 7 by omega) with rfl | rfl | rfl | rfl | rfl | rfl | rfl | rfl
  · exact ve_lo (.inl rfl) (.inr (.inr rfl))
  · exact ve_obj
  · exact ve_tw (by omega)
  · exact ve_plc h1 (.inl ⟨rfl, rfl⟩)
  · exact ve_wrk
  · exact ve_wh (by omega)
  · exact ve_num (by omega) (by omega)
  · exact ve_mkd (.inr ⟨rfl, rfl⟩)
end Vw
end Go.Proofs.Ytneibhcigbfigaa
