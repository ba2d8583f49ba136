/- What New makes: pages 1 to n - 1, all of them free. -/
import Derived.Test.YtbheabjemaaeoabPageLeft
import Derived.Test.YtbheabjemaaeoabMinMax
import Derived.OwnWalk
namespace Go.Proofs.Ytbheabjemaaeoab
open Go.RowKit Go.Lib Fx Ho Gr
set_option linter.unusedVariables false
namespace Pg
open Hm Mp
variable {W0 w w1 w' W : World} {P b0 z n c i j k K a N : Nat} {v : Value} {L M : List Rn} {H H' : Home} {F : List Bool} {m : Int → Value}
def newF (n : Nat) : List Bool := setR (List.replicate n false) 1 true (n - 1)
theorem newF_len (n : Nat) : (newF n).length = n := by unfold newF; rw [setR_len, List.length_replicate]
theorem newF_get (hn : 1 ≤ n) (i : Nat) : (newF n).getD i false = decide (1 ≤ i ∧ i < n) := by
  unfold newF
  rw [setR_get _ _ _ _ _ (by rw [List.length_replicate]; omega)]
  by_cases h : 1 ≤ i ∧ i < n
  · rw [if_pos (by omega), decide_eq_true h]
  · rw [if_neg (by omega), decide_eq_false h, List.getD_eq_getElem?_getD, List.getElem?_replicate]
    split <;> rfl
theorem newF_run (hn : 1 ≤ n) : IsRun n (newF n) a K ↔ 2 ≤ n ∧ a = 1 ∧ K = n - 1 := by
  constructor
  · rintro ⟨h1, h2, h3, h4, h5, h6⟩
    rw [newF_get hn, decide_eq_false_iff_not] at h5 h6
    omega
  · rintro ⟨h, rfl, rfl⟩
    refine ⟨Nat.le_refl _, by omega, by omega, fun i h1 h2 => ?_, ?_, ?_⟩
    · rw [newF_get hn, decide_eq_true_iff]; omega
    · rw [newF_get hn, decide_eq_false_iff_not]; omega
    · rw [newF_get hn, decide_eq_false_iff_not]; omega
theorem rel_new1 : Rel 1 (newF 1) [] := ⟨fun r h => (by cases h), fun a K g => (by have := (newF_run (Nat.le_refl _)).1 g; omega), (by rw [newF_get (Nat.le_refl _)]; rfl)⟩
theorem rel_new (hn : 2 ≤ n) (hp : M.Perm ([] ++ [(((1 : Nat) : Int), ((n - 1 : Nat) : Int), N)])) : Rel n (newF n) M := by
  refine Rel.perm ?_ hp
  refine ⟨fun r h => ?_, fun a K g => ?_, by rw [newF_get (by omega)]; rfl⟩
  · obtain rfl : r = (((1 : Nat) : Int), ((n - 1 : Nat) : Int), N) := by simpa using h
    exact (newF_run (by omega)).2 ⟨hn, rfl, Int.toNat_natCast _⟩
  · obtain ⟨_, rfl, rfl⟩ := (newF_run (by omega)).1 g
    exact ⟨_, List.mem_append_right _ (List.mem_singleton.2 rfl), rfl, rfl⟩
theorem made_bs (n : Nat) : (madeCells (Value.bool false).cells (n * 1)).toList = (bs (List.replicate n false)).toList := by
  unfold bs madeCells
  rw [List.map_replicate]
  apply List.ext_getElem?
  intro i
  by_cases h : i < n
  · simp [Value.cells, h, Nat.mod_one]
  · simp [Value.cells, h]
theorem infoBool : (Try.prog.info? 4).map (fun i => (i.zero, i.size, i.bytes)) = some (some (.bool false), 1, 1) := by kernel_rfl
/-- The pages that New begins with: none is free. -/
theorem pe_new (hf : w1.heap[b0]? = some (.cells (bs (List.replicate n false)) 4 (0, 0))) (hn : n ≤ 270000) : Pe ((w1.alloc (.map #[] 0)).alloc (.cells #[.slice (some ⟨b0, 0, none⟩) n n, .slice none 0 0, .map (some w1.heap.size)] 49)) (w1.heap.size + 1) (.slice none 0 0) b0 w1.heap.size n 0 (List.replicate n false) [] (fun _ => pz) := by
  have hb := block_lt hf
  have s1 : (w1.alloc (.map #[] 0)).heap.size = w1.heap.size + 1 := by show (w1.heap.push _).size = _; rw [Array.size_push]
  have hh : ((w1.alloc (.map #[] 0)).alloc (.cells #[.slice (some ⟨b0, 0, none⟩) n n, .slice none 0 0, .map (some w1.heap.size)] 49)).heap[w1.heap.size + 1]? = some (.cells #[.slice (some ⟨b0, 0, none⟩) n n, .slice none 0 0, .map (some w1.heap.size)] 49 (0, 0)) := by
    have := heap_alloc_new (w1.alloc (.map #[] 0)) (.cells #[.slice (some ⟨b0, 0, none⟩) n n, .slice none 0 0, .map (some w1.heap.size)] 49)
    rwa [s1] at this
  refine ⟨⟨⟨hh, cell_of hh rfl, frozen_of_row _ _ 1 _ _ hh, block_lt hh, grow_nil _ _, fun i hi => absurd hi (Nat.not_lt_zero _), (by intro e; cases e), (fun r hr => by cases hr), (fun i j hi => absurd hi (Nat.not_lt_zero _)), Nat.zero_le _⟩, ?_, List.length_replicate, ?_, (fun i _ hi _ => absurd hi (Nat.not_lt_zero _)), by omega, by omega, by omega, ?_, ?_⟩, ⟨(fun r hr => by cases hr), List.Pairwise.nil⟩, fun k => .inr ⟨(fun r hr => by cases hr), rfl⟩, Nat.le_refl _, hn⟩
  · exact ((below_alloc (below_alloc (Below.refl w1.heap.size w1) _) _).block b0 hb).trans hf
  · exact (Mp.made (R := RQ) (z := .pointer none) (zd := .nil) rfl w1).below (below_alloc (Below.refl _ _) _)
  · rintro (e | ⟨r, hr, _⟩)
    · cases e
    · cases hr
  · rintro (e | ⟨r, hr, _⟩)
    · cases e
    · cases hr
/-- How many pages New makes where it is asked for x. -/
def many (x : Int) : Nat := (min (max x 1) 262144).toNat
theorem full_bs {lo cap : Nat} {w1 : World} (h : w1.ownsRow lo 4 1 (.slice (some ⟨N, 0, none⟩) n n) n (madeCells (Value.bool false).cells (n * 1)).toList) : w1.heap[N]? = some (.cells (bs (List.replicate n false)) 4 (0, 0)) := by
  rcases h.2 with ⟨e, _⟩ | ⟨g, cap, cur, e, _, hh, _, _, hs, ht⟩
  · cases e
  · cases e
    rw [made_bs] at ht
    have e1 : cur.toList.take (n * 1) = cur.toList := List.take_of_length_le (by rw [Array.length_toList, hs]; exact Nat.le_refl _)
    rw [e1] at ht
    have e2 : cur = bs (List.replicate n false) := Array.ext' ht
    rw [← e2]; exact hh
/-- What New answers. -/
def NewR (W0 : World) (n : Nat) (e : Ending) (W : World) : Prop := ∃ P, e = .returned (.pointer (some ⟨P, 0, none⟩)) ∧ Hid (∃ H, Ps W0 W P n 4 (newF n) H)
theorem ps_new {w3 : World} (h : Pe w3 P (.slice none 0 0) b0 z n 0 (List.replicate n false) [] m) (hl : W0.heap.size ≤ P ∧ W0.heap.size ≤ b0 ∧ W0.heap.size ≤ z) (hb : Below W0.heap.size W0 w3) : Low W0.heap.size (homeA P (.slice none 0 0) b0 z []) := by
  rintro k ((rfl | hk) | rfl | rfl)
  · exact hl.1
  · rcases hk with hk | ⟨r, hr, _⟩
    · cases hk
    · cases hr
  · exact hl.2.1
  · exact hl.2.2
theorem chain_new {w3 : World} (h : Pe w3 P (.slice none 0 0) b0 z n 0 (List.replicate n false) [] m) (hl : W0.heap.size ≤ P ∧ W0.heap.size ≤ b0 ∧ W0.heap.size ≤ z) (hb : Below W0.heap.size W0 w3) (hn : 2 ≤ n) :
    Calls Try.prog 19 #[.pointer (some ⟨P, 0, none⟩), .int .i64 1, .int .i64 ((n : Int) - 1), .bool true] w3 fun e w4 => e = .returned (.tuple #[]) ∧ Hid (Calls Try.prog 20 #[.pointer (some ⟨P, 0, none⟩), .int .i64 1, .int .i64 ((n : Int) - 1)] w4 fun e w5 => e = .returned (.tuple #[]) ∧ Hid (∃ H, Ps W0 w5 P n 4 (newF n) H)) := by
  have hlow := ps_new h hl hb
  have hs := set_any h.pc 1 (n - 1) true (by omega) (by have := h.nb; omega)
  have e1 : ((n - 1 : Nat) : Int) = (n : Int) - 1 := by omega
  rw [e1] at hs
  refine hs.mono fun e w4 ⟨he, g1, g2⟩ => ⟨he, Lib.hid ?_⟩
  have hp := put_e (pe_free h g1) (by omega) 1 (n - 1) (Nat.le_refl _) (by omega) (by omega) (fun r hr => by cases hr)
  rw [e1] at hp
  refine hp.mono fun e w5 ⟨he, v', M, m', N, hN, q1, q2, q3⟩ => ⟨he, Lib.hid ?_⟩
  obtain ⟨_, H', _, hps⟩ := Ps.step (t := .tuple #[]) hlow hb he ((wider g2 (fun q e => .inr (.inl e))).trans q3) q1 (rel_new hn q2)
  exact ⟨H', hps⟩
set_option maxRecDepth 100000 in
set_option maxHeartbeats 1000000 in
theorem new_any (x : Int) (w : World) : Calls Try.prog 6 #[.int .i64 x] w (NewR w (many x)) := by
  obtain ⟨ti, hi, hz0, hz1, hz2⟩ := info_parts infoBool
  obtain ⟨m1, hm1⟩ : ∃ m1, max x 1 = m1 := ⟨_, rfl⟩
  have hmm := @run_makeMap Try.prog
  obtain ⟨n, hn⟩ : ∃ n, many x = n := ⟨_, rfl⟩
  have hm2 : min m1 262144 = (n : Int) := by rw [← hn, ← hm1]; unfold many; omega
  have hn1 : 1 ≤ n := by omega
  have hn2 : n ≤ 262144 := by omega
  have r1 := @run_max2 Try.prog _ _ _ hm1
  have r2 := @run_min2 Try.prog _ _ _ hm2
  have key : Hid (∀ w1, w1.ownsRow w.heap.size 4 1 (.slice (some ⟨w.heap.size, 0, none⟩) n n) n (madeCells (Value.bool false).cells (n * 1)).toList → w.grownBy w1 none → (n = 1 → Hid (∃ H, Ps w ((w1.alloc (.map #[] 0)).alloc (.cells #[.slice (some ⟨w.heap.size, 0, none⟩) n n, .slice none 0 0, .map (some w1.heap.size)] 49)) (w1.heap.size + 1) n 4 (newF n) H)) ∧ (2 ≤ n → Calls Try.prog 19 #[.pointer (some ⟨w1.heap.size + 1, 0, none⟩), .int .i64 1, .int .i64 ((n : Int) - 1), .bool true] ((w1.alloc (.map #[] 0)).alloc (.cells #[.slice (some ⟨w.heap.size, 0, none⟩) n n, .slice none 0 0, .map (some w1.heap.size)] 49)) fun e w4 => e = .returned (.tuple #[]) ∧ Hid (Calls Try.prog 20 #[.pointer (some ⟨w1.heap.size + 1, 0, none⟩), .int .i64 1, .int .i64 ((n : Int) - 1)] w4 fun e w5 => e = .returned (.tuple #[]) ∧ Hid (∃ H, Ps w w5 (w1.heap.size + 1) n 4 (newF n) H)))) := Lib.hid fun w1 ho hg => by
    have hb1 : Below w.heap.size w w1 := Below.grown (Below.refl _ _) hg (Nat.le_refl _) (fun k hk => by cases hk)
    have hpe := pe_new (full_bs (lo := w.heap.size) (cap := n) ho) (by omega)
    have hb3 := below_alloc (below_alloc hb1 (.map #[] 0)) (.cells #[.slice (some ⟨w.heap.size, 0, none⟩) n n, .slice none 0 0, .map (some w1.heap.size)] 49)
    have hsz := hb1.size
    have hl : w.heap.size ≤ w1.heap.size + 1 ∧ w.heap.size ≤ w.heap.size ∧ w.heap.size ≤ w1.heap.size := ⟨by omega, Nat.le_refl _, hsz⟩
    refine ⟨fun e => Lib.hid ⟨_, _, _, _, _, _, ⟨?_, hpe.lx, hpe.en, by simp, hpe.nb⟩, ?_, ps_new hpe hl hb3, hb3, rfl⟩, fun h2 => chain_new hpe hl hb3 h2⟩
    · subst e
      exact ⟨hpe.pc.q, hpe.pc.fr, hpe.pc.len, hpe.pc.map.mono (by omega), hpe.pc.ok, hpe.pc.bz, hpe.pc.bP, hpe.pc.zP, hpe.pc.bh, hpe.pc.zh⟩
    · subst e; exact rel_new1
  rw [hn]
  clear hn
  have z1 : IntKind.i64.wrap ((n : Int) - 1) = (n : Int) - 1 := by rw [IntKind.wrap_i64]; omega
  rcases Nat.lt_or_ge 1 n with h2 | h2
  · have i2 : (1 : Int) < (n : Int) := by omega
    go_enter Try.func6, Try.ntmps6
    go_wp2_with (refine wpList_make_full _ rfl _ _ 28 rfl w.heap.size 4 ti (.bool false) 1 Try.underlying28 hi hz0 hz1 .i64 .i64 _ _ n rfl rfl rfl rfl (by rw [hz2]; omega) (by unfold maxLen; omega) (Nat.le_refl _) ?_; intro w1 hown1 hgrow1; obtain ⟨k1, k2⟩ := key.out w1 hown1 hgrow1; clear hown1 hgrow1 key; replace k2 := k2 h2; clear k1)
    with_reducible refine Calls.mono k2 ?_
    rintro e w4 ⟨rfl, cp⟩
    clear k2
    go_wp2_with fail
    with_reducible refine Calls.mono cp.out ?_
    rintro e w5 ⟨rfl, hfin⟩
    clear cp
    go_wp2_with fail
    go_ret
    exact ⟨_, rfl, hfin⟩
  · have i2 : ¬ (1 : Int) < (n : Int) := by omega
    go_enter Try.func6, Try.ntmps6
    go_wp2_with (refine wpList_make_full _ rfl _ _ 28 rfl w.heap.size 4 ti (.bool false) 1 Try.underlying28 hi hz0 hz1 .i64 .i64 _ _ n rfl rfl rfl rfl (by rw [hz2]; omega) (by unfold maxLen; omega) (Nat.le_refl _) ?_; intro w1 hown1 hgrow1; obtain ⟨k1, k2⟩ := key.out w1 hown1 hgrow1; clear hown1 hgrow1 key; replace k1 := k1 (by omega); clear k2)
    go_ret
    exact ⟨_, rfl, k1⟩
end Pg
end Go.Proofs.Ytbheabjemaaeoab
