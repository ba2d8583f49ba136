/- Where the least run stands that has so many pages. -/
import Derived.Test.YtbheabjemaaeoabPagesTake
namespace Go.Proofs.Ytbheabjemaaeoab
open Go.RowKit Go.Lib Fx Ho Gr
set_option linter.unusedVariables false
namespace Pg
open Hm
variable {w w' W : World} {P i j k : Nat} {v : Value} {L M : List Rn} {K r : Int}
/-- j stands at i or below it in a heap. -/
inductive Desc : Nat → Nat → Prop
  | self (i : Nat) : Desc i i
  | left {i j : Nat} : Desc (2 * i + 1) j → Desc i j
  | right {i j : Nat} : Desc (2 * i + 2) j → Desc i j
theorem Desc.trans {a b c : Nat} (h : Desc a b) (k : Desc b c) : Desc a c := by
  induction h with
  | self => exact k
  | left _ ih => exact .left (ih k)
  | right _ ih => exact .right (ih k)
theorem desc_all : ∀ n j, j ≤ n → Desc 0 j
  | 0, j, h => by obtain rfl : j = 0 := by omega
                  exact .self 0
  | n + 1, j, h => by
    rcases Nat.eq_zero_or_pos j with rfl | hj
    · exact .self 0
    · have hp := desc_all n ((j - 1) / 2) (by omega)
      rcases Nat.mod_two_eq_zero_or_one j with e | e
      · have : j = 2 * ((j - 1) / 2) + 2 := by omega
        exact hp.trans (.right (by rw [← this]; exact .self j))
      · have : j = 2 * ((j - 1) / 2) + 1 := by omega
        exact hp.trans (.left (by rw [← this]; exact .self j))
theorem Desc.le {a b : Nat} (h : Desc a b) : a ≤ b := by
  induction h with
  | self => exact Nat.le_refl _
  | left _ ih => omega
  | right _ ih => omega
theorem desc_ahead (h : Ok Rn.rn0 Rn.ahead 0 L.length L) {a b : Nat} (hd : Desc a b) : b < L.length → Rn.ahead (L.getD b Rn.rn0) (L.getD a Rn.rn0) = false := by
  induction hd with
  | self i => exact fun _ => Hm.irrefl Rn.ahead_ord _
  | @left i j hd ih =>
    intro hb
    have := hd.le
    refine Rn.ahead_ord.trans _ _ _ ?_ (ih hb)
    have := h (2 * i + 1) (by omega) (by omega) (by omega)
    rwa [show (2 * i + 1 - 1) / 2 = i by omega] at this
  | @right i j hd ih =>
    intro hb
    have := hd.le
    refine Rn.ahead_ord.trans _ _ _ ?_ (ih hb)
    have := h (2 * i + 2) (by omega) (by omega) (by omega)
    rwa [show (2 * i + 2 - 1) / 2 = i by omega] at this
/-- What seek tells of those at i and below. -/
def SR (L : List Rn) (K : Int) (i : Nat) (r : Int) : Prop :=
  (r = -1 ∧ ∀ j, Desc i j → j < L.length → (L.getD j Rn.rn0).2.1 < K) ∨
  ∃ j0 : Nat, r = (j0 : Int) ∧ Desc i j0 ∧ j0 < L.length ∧ K ≤ (L.getD j0 Rn.rn0).2.1 ∧ ∀ j, Desc i j → j < L.length → K ≤ (L.getD j Rn.rn0).2.1 → Rn.ahead (L.getD j Rn.rn0) (L.getD j0 Rn.rn0) = false
def Sought (W : World) (L : List Rn) (K : Int) (i : Nat) (e : Ending) (W' : World) : Prop := ∃ r : Int, e = .returned (.int .i64 r) ∧ Below W.heap.size W W' ∧ SR L K i r
theorem sr_out (h : L.length ≤ i) : SR L K i (-1) := .inl ⟨rfl, fun j hd hj => by have := hd.le; omega⟩
theorem sr_here (ok : Ok Rn.rn0 Rn.ahead 0 L.length L) (hi : i < L.length) (hk : K ≤ (L.getD i Rn.rn0).2.1) : SR L K i (i : Int) := .inr ⟨i, rfl, .self i, hi, hk, fun j hd hj _ => desc_ahead ok hd hj⟩
theorem desc_cases {i j : Nat} (h : Desc i j) : j = i ∨ Desc (2 * i + 1) j ∨ Desc (2 * i + 2) j := by
  cases h with
  | self => exact .inl rfl
  | left h => exact .inr (.inl h)
  | right h => exact .inr (.inr h)
theorem sr_right {l : Int} (hi : (L.getD i Rn.rn0).2.1 < K) (hl : SR L K (2 * i + 1) l) (hr : SR L K (2 * i + 2) r) (h : l < 0 ∨ (0 ≤ l ∧ 0 ≤ r ∧ Rn.ahead (L.getD r.toNat Rn.rn0) (L.getD l.toNat Rn.rn0) = true)) : SR L K i r := by
  rcases hl with ⟨rfl, hl⟩ | ⟨jl, rfl, l1, l2, l3, l4⟩
  · rcases hr with ⟨rfl, hr⟩ | ⟨jr, rfl, r1, r2, r3, r4⟩
    · refine .inl ⟨rfl, fun j hd hj => ?_⟩
      rcases desc_cases hd with rfl | hd | hd
      · exact hi
      · exact hl j hd hj
      · exact hr j hd hj
    · refine .inr ⟨jr, rfl, .right r1, r2, r3, fun j hd hj hk => ?_⟩
      rcases desc_cases hd with rfl | hd | hd
      · omega
      · have := hl j hd hj; omega
      · exact r4 j hd hj hk
  · rcases h with h | ⟨_, h2, h3⟩
    · omega
    · rcases hr with ⟨rfl, hr⟩ | ⟨jr, rfl, r1, r2, r3, r4⟩
      · omega
      · simp only [Int.toNat_natCast] at h3
        refine .inr ⟨jr, rfl, .right r1, r2, r3, fun j hd hj hk => ?_⟩
        rcases desc_cases hd with rfl | hd | hd
        · omega
        · exact Rn.ahead_ord.trans _ _ _ (Rn.ahead_ord.asym _ _ h3) (l4 j hd hj hk)
        · exact r4 j hd hj hk
theorem sr_left {l : Nat} (hi : (L.getD i Rn.rn0).2.1 < K) (hl : SR L K (2 * i + 1) (l : Int)) (hr : SR L K (2 * i + 2) r) (h : r < 0 ∨ (0 ≤ r ∧ Rn.ahead (L.getD r.toNat Rn.rn0) (L.getD l Rn.rn0) = false)) : SR L K i (l : Int) := by
  rcases hl with ⟨e, _⟩ | ⟨jl, e, l1, l2, l3, l4⟩
  · omega
  · obtain rfl : l = jl := by omega
    refine .inr ⟨l, rfl, .left l1, l2, l3, fun j hd hj hk => ?_⟩
    rcases desc_cases hd with rfl | hd | hd
    · omega
    · exact l4 j hd hj hk
    · rcases hr with ⟨rfl, hr⟩ | ⟨jr, rfl, r1, r2, r3, r4⟩
      · have := hr j hd hj; omega
      · rcases h with h | ⟨_, h3⟩
        · omega
        · simp only [Int.toNat_natCast] at h3
          exact Rn.ahead_ord.trans _ _ _ h3 (r4 j hd hj hk)
theorem sr_nat (h : SR L K i r) : r = -1 ∨ ∃ j : Nat, r = (j : Int) ∧ j < L.length := by
  rcases h with ⟨e, _⟩ | ⟨j, e, _, h, _⟩
  · exact .inl e
  · exact .inr ⟨j, e, h⟩
set_option maxRecDepth 100000 in
set_option maxHeartbeats 1000000 in
theorem seek_any (h : IsG w P v L) (ok : Ok Rn.rn0 Rn.ahead 0 L.length L) (K : Int) : ∀ (f i : Nat), L.length ≤ i + f → i ≤ 3000 → ∀ W, Below w.heap.size w W → Calls Try.prog 21 #[v, .int .i64 i, .int .i64 K] W (Sought W L K i) := by
  intro f
  induction f with
  | zero =>
    intro i hf hi W hW
    have hgo : Hid (SR L K i (-1)) := Lib.hid (sr_out (by omega))
    obtain ⟨s, c, e⟩ := h.row.slice
    subst e
    have i1 : (L.length : Int) ≤ (i : Int) := by omega
    clear h ok
    generalize L.length = n at *
    go_enter Try.func21, Try.ntmps21
    go_wp2_with fail
    go_ret
    exact ⟨_, rfl, Below.refl _ _, hgo.out⟩
  | succ f ih =>
    intro i hf hi W hW
    by_cases hl : i < L.length
    · have hsm := h.small
      have hWG := h.below hW
      obtain ⟨bb, off, cap, rfl, _, _, _, hc⟩ := hWG.place hl
      obtain ⟨c0, _⟩ := hc i hl
      obtain ⟨_, c1, _, _⟩ := hWG.cells hl
      have i0 : (0 : Int) ≤ (i : Int) := by omega
      have i1 : (i : Int) < (L.length : Int) := by omega
      have i2 : ¬ (L.length : Int) ≤ (i : Int) := by omega
      by_cases hp : K ≤ (L.getD i Rn.rn0).2.1
      · have hgo : Hid (SR L K i (i : Int)) := Lib.hid (sr_here ok hl hp)
        clear ih h ok hWG hc hf
        generalize L.length = n at *
        generalize (L.getD i Rn.rn0).2.1 = p at *
        generalize (L.getD i Rn.rn0).2.2 = rb at *
        go_enter Try.func21, Try.ntmps21
        go_wp2_with fail
        go_ret
        exact ⟨_, rfl, Below.refl _ _, hgo.out⟩
      · have hp2 : (L.getD i Rn.rn0).2.1 < K := by omega
        have cl := ih (2 * i + 1) (by omega) (by omega) W hW
        rw [show ((2 * i + 1 : Nat) : Int) = 2 * (i : Int) + 1 by omega] at cl
        have cr := Lib.hid (fun V (hV : Below W.heap.size W V) => show Calls Try.prog 21 #[.slice (some ⟨bb, off, none⟩) L.length cap, .int .i64 (2 * (i : Int) + 2), .int .i64 K] V (Sought V L K (2 * i + 2)) by
          have := ih (2 * i + 2) (by omega) (by omega) V (hW.trans (Below.mono hV hW.size))
          rwa [show ((2 * i + 2 : Nat) : Int) = 2 * (i : Int) + 2 by omega] at this)
        have hless : Hid (∀ V, Below W.heap.size W V → ∀ a b : Nat, a < L.length → b < L.length → Calls Try.prog 30 #[.slice (some ⟨bb, off, none⟩) L.length cap, .int .i64 a, .int .i64 b] V (AnsB (.bool (Rn.ahead (L.getD a Rn.rn0) (L.getD b Rn.rn0))) V)) := Lib.hid fun V hV a b ha hb => less_any (hWG.below hV) ha hb
        have hR : Hid (∀ l r : Int, SR L K (2 * i + 1) l → SR L K (2 * i + 2) r → (l < 0 ∨ (0 ≤ l ∧ 0 ≤ r ∧ Rn.ahead (L.getD r.toNat Rn.rn0) (L.getD l.toNat Rn.rn0) = true)) → SR L K i r) := Lib.hid fun l r h1 h2 h3 => sr_right hp2 h1 h2 h3
        have hL : Hid (∀ (l : Nat) (r : Int), SR L K (2 * i + 1) (l : Int) → SR L K (2 * i + 2) r → (r < 0 ∨ (0 ≤ r ∧ Rn.ahead (L.getD r.toNat Rn.rn0) (L.getD l Rn.rn0) = false)) → SR L K i (l : Int)) := Lib.hid fun l r h1 h2 h3 => sr_left hp2 h1 h2 h3
        clear ih h ok hWG hc hf hl hp
        generalize hn : L.length = n at *
        generalize (L.getD i Rn.rn0).2.1 = p at *
        generalize (L.getD i Rn.rn0).2.2 = rb at *
        go_enter Try.func21, Try.ntmps21
        go_wp2_with fail
        with_reducible refine Calls.mono cl ?_
        rintro e w2 ⟨l, rfl, hb2, hsl⟩
        have cr2 := cr.out w2 hb2
        have nl := sr_nat hsl
        replace hsl := Lib.hid hsl
        clear cl cr
        go_wp2_with fail
        with_reducible refine Calls.mono cr2 ?_
        rintro e w3 ⟨r, rfl, hb3, hsr⟩
        have nr := sr_nat hsr
        replace hsr := Lib.hid hsr
        have hb23 := hb2.trans (hb3.mono hb2.size)
        clear cr2
        rcases nl with rfl | ⟨jl, rfl, hjl⟩
        · have hgo := Lib.hid (hR.out _ _ hsl.out hsr.out (.inl (by omega)))
          clear hR hL hless hsl hsr nr
          go_wp2_with fail
          go_ret
          exact ⟨_, rfl, hb23, hgo.out⟩
        · have l0 : ¬ (jl : Int) < 0 := by omega
          rcases nr with rfl | ⟨jr, rfl, hjr⟩
          · have hgo := Lib.hid (hL.out _ _ hsl.out hsr.out (.inl (by omega)))
            clear hR hL hless hsl hsr
            go_wp2_with fail
            go_ret
            exact ⟨_, rfl, hb23, hgo.out⟩
          · have r0 : (0 : Int) ≤ (jr : Int) := by omega
            rw [hn] at hjl hjr
            have cls := hless.out w3 hb23 jr jl hjr hjl
            cases hx : Rn.ahead (L.getD jr Rn.rn0) (L.getD jl Rn.rn0) with
            | true =>
              rw [hx] at cls
              have hgo := Lib.hid (hR.out _ _ hsl.out hsr.out (.inr ⟨by omega, r0, by simp only [Int.toNat_natCast]; exact hx⟩))
              clear hR hL hless hsl hsr hx
              go_wp2_with fail
              with_reducible refine Calls.mono cls ?_
              rintro e w4 ⟨rfl, hb4⟩
              have hb5 := hb23.trans (hb4.mono hb23.size)
              go_wp2_with fail
              go_ret
              exact ⟨_, rfl, hb5, hgo.out⟩
            | false =>
              rw [hx] at cls
              have hgo := Lib.hid (hL.out _ _ hsl.out hsr.out (.inr ⟨r0, by simp only [Int.toNat_natCast]; exact hx⟩))
              clear hR hL hless hsl hsr hx
              go_wp2_with fail
              with_reducible refine Calls.mono cls ?_
              rintro e w4 ⟨rfl, hb4⟩
              have hb5 := hb23.trans (hb4.mono hb23.size)
              go_wp2_with fail
              go_ret
              exact ⟨_, rfl, hb5, hgo.out⟩
    · have hgo : Hid (SR L K i (-1)) := Lib.hid (sr_out (by omega))
      obtain ⟨s, c, e⟩ := h.row.slice
      subst e
      have i1 : (L.length : Int) ≤ (i : Int) := by omega
      clear h ok ih hf hl
      generalize L.length = n at *
      go_enter Try.func21, Try.ntmps21
      go_wp2_with fail
      go_ret
      exact ⟨_, rfl, Below.refl _ _, hgo.out⟩
end Pg
end Go.Proofs.Ytbheabjemaaeoab
