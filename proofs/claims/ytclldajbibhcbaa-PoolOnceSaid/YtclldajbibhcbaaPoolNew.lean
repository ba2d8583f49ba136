/- How many there are in all; a new pool; a pool that is none; the statements' own question. -/
import Derived.Test.YtclldajbibhcbaaPoolMore
namespace Go.Proofs.Ytclldajbibhcbaa
open Go.RowKit Go.Lib Fx Ho Qu Bu Gr
set_option linter.unusedVariables false
namespace Po
variable {w w' W W0 : World} {p B ps nf ne nf' ne' : Nat} {ad : Nat → Nat → Nat} {c c' : Nat → Nat → List Int} {G M H H' K M' : Home} {a : Nat → Value} {fv ev v : Value} {xf xe xs : List Value} {s : St} {n i : Nat}
def fsum (F : List (List Int)) (j : Nat) : Nat := sm (fun i => (F.getD i []).length) j
theorem fsum_all : ∀ (F : List (List Int)), fsum F F.length = (F.map List.length).sum := by
  intro F
  have : ∀ n, n ≤ F.length → fsum F n = ((F.take n).map List.length).sum := by
    intro n
    induction n with
    | zero => intro _; rfl
    | succ n ih =>
      intro hn
      have h1 : (F.take (n + 1)) = F.take n ++ [F.getD n []] := by
        rw [List.take_succ_eq_append_getElem (by omega), List.getD_eq_getElem?_getD, List.getElem?_eq_getElem (by omega)]; rfl
      show fsum F n + (F.getD n []).length = _
      rw [h1, ih (by omega)]; simp
  have h := this F.length (Nat.le_refl _)
  rwa [List.take_length] at h
theorem sm_le {f : Nat → Nat} {b : Nat} : ∀ {n : Nat}, (∀ i, i < n → f i ≤ b) → sm f n ≤ n * b
  | 0, _ => by simp [sm]
  | n + 1, h => by
    show sm f n + f n ≤ _
    have h1 := sm_le (n := n) (fun i hi => h i (by omega))
    have h2 := h n (by omega)
    rw [Nat.add_mul]; omega
set_option maxRecDepth 100000 in
set_option maxHeartbeats 1000000 in
theorem len_any (h : Is K w p B ps s) (hps : ps ≤ 64) (hF : s.F.length ≤ 90000) : Calls Try.prog 64 #[.pointer (some ⟨p, 0, none⟩)] w (Ans (.int .i64 (tot List.length ps s)) w) := by
  have hI := h
  obtain ⟨a, fv, ev, ad, M, G, h⟩ := h
  have c0 := h.m.c0
  have c1 := h.m.c1
  have cL : Hid (∀ k i, i < ps → Calls Try.prog 60 #[.pointer (some ⟨p, 0, none⟩), .int .i64 i] (w.drewN k) (Ans (.int .i64 (((s.o i).length + (s.t i).length : Nat) : Int)) (w.drewN k))) := Lib.hid fun k i hi => local_any (hI.below (below_drewN (Below.refl _ _) k)) hi hps
  obtain ⟨sf, off, cf, hcell⟩ : ∃ sp b off cap, fv = .slice sp s.F.length cap ∧ ∀ j, j < s.F.length → sp = some ⟨b, off, none⟩ ∧ w.cell? ⟨b, off + j, none⟩ = some (.pointer (some ⟨ad 2 j, 0, none⟩)) := by
    obtain ⟨ao, b, off, cap, e, hle, _, hab, hc⟩ := h.m.full.cell
    exact ⟨ao, b, off, cap, e, fun j hj => ⟨(hab (by omega)).1, (hc j _ (ptrs_get hj)).1⟩⟩
  obtain ⟨cap, ef, hcell⟩ := hcell
  have cF : Hid (∀ k j, j < s.F.length → Calls Try.prog 73 #[.pointer (some ⟨ad 2 j, 0, none⟩)] (w.drewN k) (Still (.int .i64 ((s.F.getD j []).length : Nat)) (w.drewN k))) := Lib.hid fun k j hj => by
    have hb := h.b.buf 2 j (Or.inr (Or.inl ⟨rfl, hj⟩))
    exact Bu.len_any (hb.below (below_drewN (Below.refl _ _) k))
  have hsm1 : ∀ i, i < ps → (s.o i).length + (s.t i).length ≤ 64 := fun i hi => by have := (h.b0 hi).small; have := (h.b1 hi).small; omega
  have hsm2 : ∀ j, j < s.F.length → (s.F.getD j []).length ≤ 32 := fun j hj => (h.b.buf 2 j (Or.inr (Or.inl ⟨rfl, hj⟩))).small
  have hb1 : Hid (∀ i, i ≤ ps → sm (fun i => (s.o i).length + (s.t i).length) i ≤ 4096) := Lib.hid fun i hi => by
    have h1 := sm_le (f := fun i => (s.o i).length + (s.t i).length) (n := i) (fun j hj => hsm1 j (by omega))
    have h2 : i * 64 ≤ 64 * 64 := Nat.mul_le_mul_right _ (by omega)
    omega
  have hb2 : Hid (∀ j, j ≤ s.F.length → fsum s.F j ≤ 2880000) := Lib.hid fun j hj => by
    have h1 := sm_le (f := fun i => (s.F.getD i []).length) (n := j) (fun i hi => hsm2 i (by omega))
    have h2 : j * 32 ≤ 90000 * 32 := Nat.mul_le_mul_right _ (by omega)
    unfold fsum
    omega
  have htot : Hid (∀ x : Int, x = (sm (fun i => (s.o i).length + (s.t i).length) ps : Nat) + (fsum s.F s.F.length : Nat) → x = (tot List.length ps s : Nat)) := Lib.hid fun x hx => by
    rw [hx, fsum_all]; unfold tot; push_cast; rfl
  subst ef
  clear hI h hsm1 hsm2
  generalize tot List.length ps s = TT at *
  obtain ⟨m, hm⟩ : ∃ m, s.F.length = m := ⟨_, rfl⟩
  rw [hm] at hF c1 hcell cF hb2 htot
  clear hm
  replace hcell := Lib.hid hcell
  go_enter Try.func64, Try.ntmps64
  go_wp2_with fail
  go_loopw [3, 14] (fun v3 v14 wr => ∃ i : Nat, v3 = .int .i64 (sm (fun i => (s.o i).length + (s.t i).length) i : Nat) ∧ v14 = .int .i64 i ∧ i ≤ ps ∧ ∃ q, wr = w.drewN q) (fun _ v14 _ => (ps - (RowKit.intOf v14).toNat))
  case atStart => exact ⟨0, rfl, rfl, by omega, 0, rfl⟩
  case round =>
    obtain ⟨i, rfl, rfl, hi1, q, rfl⟩ := hrel
    by_cases hi : i < ps
    · have i2 : (i : Int) < (ps : Int) := by omega
      have i0 : (0 : Int) ≤ (i : Int) := by omega
      have cL1 := cL.out q i hi
      have hB := hb1.out (i + 1) (by omega)
      have e1 : sm (fun i => (s.o i).length + (s.t i).length) (i + 1) = sm (fun i => (s.o i).length + (s.t i).length) i + ((s.o i).length + (s.t i).length) := rfl
      rw [e1] at hB
      replace e1 := Lib.hid e1
      clear hcell cF hb2 htot
      generalize (s.o i).length + (s.t i).length = y at *
      generalize sm (fun i => (s.o i).length + (s.t i).length) i = x at *
      have y0 : (0 : Int) ≤ (y : Int) := by omega
      have x0 : (0 : Int) ≤ (x : Int) := by omega
      have xy : (x : Int) + (y : Int) ≤ 4096 := by omega
      go_wp2_with fail
      with_reducible refine Calls.mono cL1 ?_
      rintro e w2 ⟨rfl, q2, rfl⟩
      clear cL1 hB
      go_wp2_with fail
      go_roundw
      case rel => exact ⟨i + 1, by rw [e1.out]; push_cast; rfl, by go_num, by omega, q + q2, by first | rfl | rw [World.drewN_drewN]⟩
      case measure => simp [RowKit.intOf]; omega
    · obtain rfl : i = ps := by omega
      clear cL
      have hB1 := hb1.out i (Nat.le_refl _)
      clear hb1
      generalize sm (fun i => (s.o i).length + (s.t i).length) i = X at *
      go_wp2_with fail
      go_loopw [3, 28] (fun v3 v28 wr => ∃ j : Nat, v3 = .int .i64 ((X + fsum s.F j : Nat) : Int) ∧ v28 = .int .i64 j ∧ j ≤ m ∧ ∃ q, wr = w.drewN q) (fun _ v28 _ => (m - (RowKit.intOf v28).toNat))
      case atStart => exact ⟨0, rfl, rfl, by omega, q, rfl⟩
      case round =>
        obtain ⟨j, rfl, rfl, hj1, q, rfl⟩ := hrel
        by_cases hj : j < m
        · have i2 : (j : Int) < (m : Int) := by omega
          have i0 : (0 : Int) ≤ (j : Int) := by omega
          obtain ⟨e5, c5⟩ := hcell.out j hj
          subst e5
          have cL1 := cF.out q j hj
          have hB := hb2.out (j + 1) (by omega)
          have e1 : fsum s.F (j + 1) = fsum s.F j + (s.F.getD j []).length := rfl
          rw [e1] at hB
          replace e1 := Lib.hid e1
          clear hcell cF hb2 htot
          generalize (s.F.getD j []).length = y at *
          generalize fsum s.F j = x at *
          have y0 : (0 : Int) ≤ (y : Int) := by omega
          have x0 : (0 : Int) ≤ ((X + x : Nat) : Int) := by omega
          have xy : ((X + x : Nat) : Int) + (y : Int) ≤ 3000000 := by omega
          have hex : Hid (((X + (x + y) : Nat) : Int) = ((X + x : Nat) : Int) + (y : Int)) := Lib.hid (by push_cast; omega)
          clear hB
          generalize ((X + x : Nat) : Int) = Y at *
          go_wp2_with fail
          with_reducible refine Calls.mono cL1 ?_
          rintro e w2 ⟨rfl, e2⟩
          subst e2
          clear cL1
          go_wp2_with fail
          go_roundw
          case rel => exact ⟨j + 1, by rw [e1.out, hex.out], by go_num, by omega, _, rfl⟩
          case measure => simp [RowKit.intOf]; omega
        · obtain rfl : j = m := by omega
          have hT := htot.out ((X + fsum s.F j : Nat) : Int) (by push_cast; rfl)
          clear htot hcell cF hb2
          rw [hT]
          go_wp2_with fail
          go_ret
          exact ⟨rfl, _, rfl⟩
set_option maxRecDepth 100000 in
theorem len_nil (w : World) : Calls Try.prog 64 #[.pointer none] w (Still (.int .i64 0) w) := by
  go_enter Try.func64, Try.ntmps64
  go_wp2_with fail
  go_ret
  exact ⟨rfl, rfl⟩
set_option maxRecDepth 100000 in
theorem get_nil (i : Int) (w : World) : Calls Try.prog 59 #[.pointer none, .int .i64 i] w (Still (.tuple #[.int .i64 0, .bool false]) w) := by
  have co := of_nil i w
  go_enter Try.func59, Try.ntmps59
  go_wp2_with fail
  with_reducible refine Calls.mono (co) ?_
  rintro e w' ⟨rfl, rfl⟩
  go_wp2_with fail
  go_ret2
  exact ⟨rfl, rfl⟩
set_option maxRecDepth 100000 in
theorem give_nil (i : Int) (w : World) : Calls Try.prog 65 #[.pointer none, .int .i64 i] w (Still (.bool false) w) := by
  have co := of_nil i w
  go_enter Try.func65, Try.ntmps65
  go_wp2_with fail
  with_reducible refine Calls.mono (co) ?_
  rintro e w' ⟨rfl, rfl⟩
  go_wp2_with fail
  go_ret
  exact ⟨rfl, rfl⟩
set_option maxRecDepth 100000 in
theorem flushed_nil (i : Int) (w : World) : Calls Try.prog 57 #[.pointer none, .int .i64 i] w (Still (.bool false) w) := by
  have co := of_nil i w
  go_enter Try.func57, Try.ntmps57
  go_wp2_with fail
  with_reducible refine Calls.mono (co) ?_
  rintro e w' ⟨rfl, rfl⟩
  go_wp2_with fail
  go_ret
  exact ⟨rfl, rfl⟩
set_option maxRecDepth 100000 in
theorem new_no (w : World) : Calls Try.prog 55 #[.int .i64 0] w (Still (.tuple #[.pointer none, .int .i64 1]) w) := by
  go_enter Try.func55, Try.ntmps55
  go_wp2_with fail
  go_ret2
  exact ⟨rfl, rfl⟩
end Po
end Go.Proofs.Ytclldajbibhcbaa
