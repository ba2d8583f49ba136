/- What Alive of package state answers; what the statements' own question after a few answers. -/
import Derived.Test.YteigcjgohhgjcaaStatesDo
import Derived.Deep.RegionWith
import Derived.StillTailTactics
namespace Go.Proofs.Yteigcjgohhgjcaa
open Go.RowKit Go.Lib Fx Ho
set_option linter.unusedVariables false
namespace St
variable {w W W1 : World} {p : Nat} {v v1 : Value} {L : List Int}
/-- The first i goroutines that are not dead, rising. -/
def aliveTo (L : List Int) : Nat → List Int
  | 0 => []
  | i + 1 => aliveTo L i ++ (if L.getD i 0 = 5 then [] else [(i : Int)])
theorem alive_le (L : List Int) : ∀ i, (aliveTo L i).length ≤ i
  | 0 => by simp [aliveTo]
  | i + 1 => by
    have := alive_le L i
    unfold aliveTo
    rw [List.length_append]
    split <;> simp <;> omega
set_option maxRecDepth 100000 in
set_option maxHeartbeats 1000000 in
theorem alive_any (w : World) (h : IsSt w p v L) : Calls Try.prog 46 #[.pointer (some ⟨p, 0, none⟩)] w fun e w' => ∃ v', e = .returned v' ∧ Below w.heap.size w w' ∧ w'.ownsRow w.heap.size 3 1 v' (aliveTo L L.length).length (cells (aliveTo L L.length)) := by
  obtain ⟨i0, hi, hz0, hz1, hz2⟩ := info_parts infoI
  have c0 := h.c0
  have c6 := h.c6
  have hcn := cnt_in L 5
  have hsm := h.small
  obtain ⟨m, hm⟩ : ∃ m : Nat, (L.length : Int) - cnt L 5 = (m : Int) := ⟨((L.length : Int) - cnt L 5).toNat, by omega⟩
  have hcell : Hid (∀ W, Below w.heap.size w W → ∀ i, i < L.length → ∃ b cap, v = .slice (some ⟨b, 0, none⟩) L.length cap ∧ W.cell? ⟨b, i, none⟩ = some (.int .i64 (L.getD i 0))) := fun W hb i hi => by
    obtain ⟨b, cap, hv, _, _, k3, _⟩ := own_at h.own hi
    exact ⟨b, cap, hv, cell_then hb k3⟩
  obtain ⟨sp, cap, rfl⟩ := own_slice h.own
  clear h
  generalize cnt L 5 = c at *
  obtain ⟨n, hn⟩ : ∃ n, L.length = n := ⟨_, rfl⟩
  rw [hn] at c0 hcn hsm hm hcell ⊢
  go_enter Try.func46, Try.ntmps46
  go_wp2_with fail
  go_still_tail 11, (by kernel_rfl)
  change wpList _ _ _ _ _ w.drew
  have hb0 : Below w.heap.size w w.drew := (Below.refl _ _).drew
  generalize w.drew = w2 at *
  have hbs0 := hb0.size
  go_wp2_with (refine wpList_make_own _ rfl _ _ 26 rfl w.heap.size 3 i0 (.int .i64 0) 1 Try.underlying26 hi hz0 hz1 .i64 .i64 _ m rfl rfl (by first | exact hm | (rw [IntKind.wrap_i64]; omega)) (by rw [hz2]; omega) (by unfold maxLen; omega) hbs0 ?_; intro w1 hown1 hgrow1; have hb1 : Below w.heap.size w w1 := hb0.grown hgrow1 hbs0 (fun k hk => by cases hk); have d0 := cell_then hb1 c0; clear hgrow1 c6 c0)
  go_loopw [3, 25] (fun u i wr => ∃ k : Nat, i = .int .i64 k ∧ k ≤ n ∧ Hid (wr.ownsRow w.heap.size 3 1 u (aliveTo L k).length (cells (aliveTo L k))) ∧ Below w.heap.size w wr) (fun _ i _ => (n - (intOf i).toNat))
  case atStart => exact ⟨0, rfl, by omega, hown1, hb1⟩
  case round =>
    obtain ⟨k, rfl, k1, hown, hb⟩ := hrel
    clear hown1 hb1 d0
    by_cases hk : k < n
    · obtain ⟨b1, cap1, hv1, e1⟩ := hcell.out wr hb k hk
      obtain ⟨rfl, rfl⟩ : sp = some ⟨b1, 0, none⟩ ∧ cap = cap1 := by simpa using hv1
      have i2 : (k : Int) < (n : Int) := by omega
      have i3 : (0 : Int) ≤ (k : Int) := by omega
      have hle := alive_le L k
      have hbs := hb.size
      by_cases h5 : L.getD k 0 = 5
      · have hnx : Hid (aliveTo L (k + 1) = aliveTo L k) := by show aliveTo L k ++ _ = _; rw [if_pos h5, List.append_nil]
        rw [h5] at e1
        clear hv1 h5
        go_wp2_with fail
        go_roundw
        case rel => exact ⟨k + 1, by go_num, by omega, by rw [hnx.out]; exact hown, hb⟩
        case measure => simp [intOf]; omega
      · have hnx : Hid (aliveTo L (k + 1) = aliveTo L k ++ [(k : Int)]) := by show aliveTo L k ++ _ = _; rw [if_neg h5]
        have h6 : (L.getD k 0 == 5) = false := by rw [beq_eq_false_iff_ne]; exact h5
        generalize L.getD k 0 = y at *
        obtain ⟨q, hq⟩ : ∃ q, (aliveTo L k).length = q := ⟨_, rfl⟩
        rw [hq] at hown hle
        have hal : Hid (∀ (v' : Value) (W : World), W.ownsRow w.heap.size 3 1 v' (q + 1) (cells (aliveTo L k) ++ [.int .i64 k]) → W.ownsRow w.heap.size 3 1 v' (aliveTo L (k + 1)).length (cells (aliveTo L (k + 1)))) := fun v' W ho => by
          rw [hnx.out, cells_app, List.length_append, hq]; exact ho
        have hkeep : Hid (∀ W v', wr.ownsRow w.heap.size 3 1 v' q (cells (aliveTo L k)) → (wr.alloc (.cells #[.int .i64 k] 3)).grownBy W v'.ownBlock → Below w.heap.size w W) := fun W v' ho hg =>
          (below_alloc hb _ |>.trans (Below.grown (Below.refl _ _) hg (by show _ ≤ (wr.heap.push _).size; rw [Array.size_push]; omega) (fun r hr => (ho.lt r hr).1)))
        clear hv1 h5 hq hnx
        generalize cells (aliveTo L k) = CA at *
        go_wp2_with (at_builtin; refine wpList_append_own _ rfl _ _ 26 rfl w.heap.size 3 i0 (.int .i64 0) 1 8 Try.underlying26 hi hz0 hz1 hz2 rfl (by decide) _ q CA rfl (hown.out.alloc _) ⟨wr.heap.size, 0, none⟩ 1 1 [.int .i64 k] rfl rfl (news_one wr (.int .i64 k) 3) (fun x hx => by simp at hx; subst hx; rfl) (by unfold maxLen; omega) (by omega) (by show _ ≤ (wr.heap.push _).size; rw [Array.size_push]; omega) ?_; intro v' w3 hown3 hgrow hnil; clear hnil; have hb3 := hkeep.out _ _ hown.out hgrow; clear hgrow; have hown4 := Lib.hid (hal.out _ _ hown3); clear hown3)
        go_roundw
        case rel => exact ⟨k + 1, by go_num, by omega, hown4, hb3⟩
        case measure => simp [intOf]; omega
    · obtain rfl : k = n := by omega
      go_wp2_with fail
      go_ret
      exact ⟨_, rfl, hb, hown.out⟩

/-- States that a statement made since the world W0, and all else as it was. -/
structure Ss (W0 w : World) (p : Nat) (v : Value) (L : List Int) : Prop where
  st : IsSt w p v L
  low : Low W0.heap.size (home p v)
  bel : Below W0.heap.size W0 w
namespace Ss
variable {W0 w' : World} {v' : Value} {L' : List Int}
theorem turns (h : Ss W0 w p v L) (ht : Wrote (home p v) w (home p v') w') (hs : IsSt w' p v' L') : Ss W0 w' p v' L' :=
  ⟨hs, ht.low h.low h.bel.size, ht.below h.low h.bel⟩
theorem below (h : Ss W0 w p v L) (hb : Below w.heap.size w w') : Ss W0 w' p v L := ⟨h.st.below hb, h.low, h.bel.trans (hb.mono h.bel.size)⟩
/-- Another thing that is apart of it was written. -/
theorem wrote {H H' : Home} (h : Ss W0 w p v L) (ht : Wrote H w H' w') (hl : Low W0.heap.size H) (ho : Off (home p v) H) : Ss W0 w' p v L := ⟨h.st.wrote ht ho, h.low, ht.below hl h.bel⟩
end Ss
section
variable {W0 : World}
theorem ss_new (w : World) : Calls Try.prog 38 #[] w fun e w' => e = .returned (.pointer (some ⟨w.heap.size, 0, none⟩)) ∧ Ss w w' w.heap.size (.slice none 0 0) [] :=
  (new_any w).mono fun _ _ ⟨he, hb, hs⟩ => ⟨he, hs, fun k hk => hk.elim (fun e => Nat.le_of_eq e.symm) (fun e => by cases e), hb⟩
theorem ss_spawn (h : Ss W0 w p v L) (hs : L.length < 1024) : Calls Try.prog 39 #[.pointer (some ⟨p, 0, none⟩)] w fun e w' => e = .returned (.tuple #[.int .i64 L.length, .int .i64 0]) ∧ ∃ v', Ss W0 w' p v' (L ++ [1]) :=
  (spawn_any w h.st hs).mono fun _ _ ⟨he, v', ht, hs⟩ => ⟨he, v', h.turns ht hs⟩
theorem ss_full (h : Ss W0 w p v L) (hs : L.length = 1024) : Calls Try.prog 39 #[.pointer (some ⟨p, 0, none⟩)] w fun e w' => e = .returned (.tuple #[.int .i64 0, .int .i64 3]) ∧ Ss W0 w' p v L :=
  (spawn_full w h.st hs).mono fun _ _ ⟨he, hw⟩ => ⟨he, hw ▸ h⟩
theorem ss_move (g : Nat) (t : Int) (h : Ss W0 w p v L) (hg : g < L.length) (hm : mayB (L.getD g 0) t = true) : Calls Try.prog 41 #[.pointer (some ⟨p, 0, none⟩), .int .i64 g, .int .i64 t] w fun e w' => e = .returned (.int .i64 0) ∧ ∃ v', Ss W0 w' p v' (L.set g t) :=
  (move_ok g t hg hm w h.st).mono fun _ _ ⟨he, v', ht, hs⟩ => ⟨he, v', h.turns ht hs⟩
theorem ss_not (g : Nat) (t : Int) (h : Ss W0 w p v L) (hg : g < L.length) (hm : mayB (L.getD g 0) t = false) : Calls Try.prog 41 #[.pointer (some ⟨p, 0, none⟩), .int .i64 g, .int .i64 t] w fun e w' => e = .returned (.int .i64 5) ∧ Ss W0 w' p v L :=
  (move_not g t hg hm w h.st).mono fun _ _ ⟨he, hb⟩ => ⟨he, h.below hb⟩
theorem ss_none (g : Int) (t : Int) (h : Ss W0 w p v L) (hg : ¬ (0 ≤ g ∧ g < L.length)) : Calls Try.prog 41 #[.pointer (some ⟨p, 0, none⟩), .int .i64 g, .int .i64 t] w fun e w' => e = .returned (.int .i64 4) ∧ Ss W0 w' p v L :=
  (move_none g t hg w h.st).mono fun _ _ ⟨he, hw⟩ => ⟨he, hw ▸ h⟩
theorem ss_alive (h : Ss W0 w p v L) : Calls Try.prog 46 #[.pointer (some ⟨p, 0, none⟩)] w fun e w' => ∃ sp cap, e = .returned (.slice sp (aliveTo L L.length).length cap) ∧ Ss W0 w' p v L :=
  (alive_any w h.st).mono fun _ _ ⟨v', he, hb, ho⟩ => by
    obtain ⟨sp, cap, rfl⟩ := own_slice ho
    exact ⟨sp, cap, he, h.below hb⟩
end
set_option maxRecDepth 100000 in
set_option maxHeartbeats 2000000 in
theorem told_any (w : World) : Calls Try.prog 45 #[] w fun e w' => e = .returned (.bool true) ∧ Below w.heap.size w w' := by
  have cn := ss_new w
  have cm := fun w => may_any 3 1 w
  rw [show mayB 3 1 = true by decide] at cm
  obtain ⟨p, hp⟩ : ∃ p, w.heap.size = p := ⟨_, rfl⟩
  rw [hp] at cn
  clear hp
  go_enter Try.func45, Try.ntmps45
  go_wp2_with fail
  with_reducible refine Calls.mono (cn) ?_
  rintro e w1 ⟨rfl, hs1⟩
  have cs := ss_spawn hs1 (by decide)
  clear cn
  go_wp2_with fail
  with_reducible refine Calls.mono (cs) ?_
  rintro e w2 ⟨rfl, v2, hs2⟩
  clear hs1 cs
  have cs := ss_not 0 5 hs2 (by decide) (by decide)
  go_wp2_with fail
  with_reducible refine Calls.mono (cs) ?_
  rintro e w3 ⟨rfl, hs3⟩
  clear hs2 cs
  have cs := ss_move 0 2 hs3 (by decide) (by decide)
  go_wp2_with fail
  with_reducible refine Calls.mono (cs) ?_
  rintro e w4 ⟨rfl, v4, hs4⟩
  clear hs3 cs
  have cs := ss_move 0 5 hs4 (by decide) (by decide)
  go_wp2_with fail
  with_reducible refine Calls.mono (cs) ?_
  rintro e w5 ⟨rfl, v5, hs5⟩
  clear hs4 cs
  have cc := count_yes 5 (by decide) _ hs5.st
  rw [show cnt ((([] ++ [1] : List Int).set 0 2).set 0 5) 5 = 1 by decide] at cc
  go_wp2_with fail
  with_reducible refine Calls.mono (cc) ?_
  rintro e w6 ⟨rfl, rfl⟩
  clear cc
  have ca := ss_alive hs5
  rw [show (aliveTo ((([] ++ [1] : List Int).set 0 2).set 0 5) ((([] ++ [1] : List Int).set 0 2).set 0 5).length).length = 0 by decide] at ca
  go_wp2_with fail
  with_reducible refine Calls.mono (ca) ?_
  rintro e w7 ⟨sp7, cap7, rfl, hs7⟩
  clear ca hs5
  have co := of_no 5 (by decide) _ hs7.st
  go_wp2_with fail
  with_reducible refine Calls.mono (co) ?_
  rintro e w8 ⟨rfl, rfl⟩
  clear co
  go_wp2_with fail
  with_reducible refine Calls.mono (cm _) ?_
  rintro e w9 ⟨rfl, hb9⟩
  have hfin := Lib.hid (hs7.below hb9).bel
  clear hs7 hb9 cm
  go_wp2_with fail
  go_ret
  exact ⟨rfl, hfin.out⟩
end St
end Go.Proofs.Yteigcjgohhgjcaa
