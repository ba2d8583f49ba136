/- What the inner calls of package pool answer and make: a P's place, push and pop of a row in common, a buffer's way into common. -/
import Derived.Test.YtclldajbibhcbaaPoolMath
import Derived.RegionTactic
import Derived.StillTailTactics
import Derived.Deep.RegionHeld3
import Derived.Deep.RegionLaw
import Derived.Deep.RegionWith
namespace Go.Proofs.Ytclldajbibhcbaa
open Go.RowKit Go.Lib Fx Ho Qu Bu Gr
set_option linter.unusedVariables false
namespace Po
variable {w w' W : World} {p B ps nf ne nf' ne' : Nat} {ad : Nat → Nat → Nat} {c c' : Nat → Nat → List Int} {G M H H' K : Home} {a : Nat → Value} {fv ev v : Value} {xf xe xs : List Value} {s : St} {n : Nat}
theorem elt : Elt Try.prog 141 83 1 8 (.pointer none) := ⟨Try.underlying141, by kernel_rfl, by kernel_rfl, by decide, by decide⟩
theorem elt2 : Elt Try.prog 142 83 1 8 (.pointer none) := ⟨Try.underlying142, by kernel_rfl, by kernel_rfl, by decide, by decide⟩
set_option maxRecDepth 100000 in
theorem of_nil (i : Int) (w : World) : Calls Try.prog 115 #[.pointer none, .int .i64 i] w (Still (.pointer none) w) := by
  go_enter Try.func115, Try.ntmps115
  go_wp2_with fail
  go_ret
  exact ⟨rfl, rfl⟩
set_option maxRecDepth 100000 in
theorem of_out (i : Int) (hi : i < 0 ∨ ps ≤ i) (h : Mem w p B ps a fv ev nf ne xf xe M) : Calls Try.prog 115 #[.pointer (some ⟨p, 0, none⟩), .int .i64 i] w (Still (.pointer none) w) := by
  have c0 := h.c0
  clear h
  by_cases h0 : i < 0
  · clear hi
    go_enter Try.func115, Try.ntmps115
    go_wp2_with fail
    go_ret
    exact ⟨rfl, rfl⟩
  · have h1 : (ps : Int) ≤ i := by omega
    clear hi
    go_enter Try.func115, Try.ntmps115
    go_wp2_with fail
    go_ret
    exact ⟨rfl, rfl⟩
set_option maxRecDepth 100000 in
theorem of_in (i : Nat) (hi : i < ps) (hps : ps ≤ 64) (h : Mem w p B ps a fv ev nf ne xf xe M) : Calls Try.prog 115 #[.pointer (some ⟨p, 0, none⟩), .int .i64 i] w (Still (.pointer (some ⟨B, i * 3, none⟩)) w) := by
  have c0 := h.c0
  clear h
  have i0 : (0 : Int) ≤ (i : Int) := by omega
  have i1 : ¬ (ps : Int) ≤ (i : Int) := by omega
  have i2 : (i : Int) < (ps : Int) := by omega
  go_enter Try.func115, Try.ntmps115
  go_wp2_with fail
  go_ret
  exact ⟨rfl, rfl⟩
/-- One more in a row in common. -/
def Pushed (j : Nat) (v : Value) (n : Nat) (xs : List Value) (p : Nat) (w : World) (e : Ending) (w' : World) : Prop :=
  e = .returned (.tuple #[]) ∧ ∃ v' w1, GRow 1 w1 v' (n + 1) xs ∧ Wrote (fun k => v.ownBlock = some k) w (fun k => v'.ownBlock = some k) w1 ∧ w' = w1.setCell ⟨p, j, none⟩ v'
set_option maxRecDepth 100000 in
set_option maxHeartbeats 1000000 in
theorem push_any {j x : Nat} (hc : w.cell? ⟨p, j, none⟩ = some v) (hf : w.frozen? ⟨p, j, none⟩ = false) (hg : GRow 1 w v n xs) (ho : v.ownBlock ≠ some p) (hn : n ≤ 100000) :
    Calls Try.prog 119 #[.pointer (some ⟨p, j, none⟩), ptr x] w (Pushed j v n (xs ++ [ptr x]) p w) := by
  have hg1 := Lib.hid (hg.below (below_alloc (Below.refl _ _) (.cells #[ptr x] 83)))
  have hsrc : Hid (Src Try.prog 1 142 (.slice (some ⟨w.heap.size, 0, none⟩) 1 1) 1 [ptr x] (w.alloc (.cells #[ptr x] 83))) := Lib.hid (src_new (A := #[ptr x]) Try.underlying142 rfl (fun u hu => by simp at hu; subst hu; rfl) (heap_alloc_new _ _))
  have hsrc2 : Hid (Src Try.prog 1 141 (.slice (some ⟨w.heap.size, 0, none⟩) 1 1) 1 [ptr x] (w.alloc (.cells #[ptr x] 83))) := Lib.hid (src_new (A := #[ptr x]) Try.underlying141 rfl (fun u hu => by simp at hu; subst hu; rfl) (heap_alloc_new _ _))
  have hplt := World.block_lt_of_cell? w _ hc
  have hend : Hid (∀ w1 v', GRow 1 w1 v' (n + 1) (xs ++ [ptr x]) → Wrote (fun k => v.ownBlock = some k) (w.alloc (.cells #[ptr x] 83)) (fun k => v'.ownBlock = some k) w1 → (∃ sp cap, v' = .slice sp (n + 1) cap) ∧ w1.cell? ⟨p, j, none⟩ = some v ∧ w1.frozen? ⟨p, j, none⟩ = false ∧ Hid (Pushed j v n (xs ++ [ptr x]) p w (.returned (.tuple #[])) (w1.setCell ⟨p, j, none⟩ v'))) := Lib.hid fun w1 v' h1 h2 => by
    have hb := below_alloc (Below.refl _ w) (.cells #[ptr x] 83)
    refine ⟨h1.slice, h2.cell (cell_then hb hc) ho, ?_, Lib.hid ⟨rfl, v', w1, h1, (Wrote.of_below hb).trans h2, rfl⟩⟩
    rw [World.frozen?_of_block (a := ⟨p, j, none⟩) (h2.block p (Nat.lt_of_lt_of_le hplt hb.size) ho), hb.frozen hplt]; exact hf
  have hn2 : n + 1 ≤ 1000000 := by omega
  obtain ⟨sp, cap, rfl⟩ := hg.slice
  clear hg ho
  unfold ptr at *
  go_enter Try.func119, Try.ntmps119
  go_wp2_with (at_builtin; refine wpList_append_g rfl _ _ rfl rfl (by first | exact elt2 | exact elt) hg1.out rfl rfl (by first | exact hsrc2.out | exact hsrc.out) hn2 ?_; intro v' w1 k1 k2; have hk := hend.out w1 v' k1 k2; clear k1 k2 hend; obtain ⟨⟨s1, c1, rfl⟩, d1, d2, hfin⟩ := hk)
  go_end0
  exact hfin.out
set_option maxRecDepth 100000 in
set_option maxHeartbeats 1000000 in
theorem pop_any {j x b off cap : Nat} (hc : w.cell? ⟨p, j, none⟩ = some (.slice (some ⟨b, off, none⟩) (n + 1) cap)) (hf : w.frozen? ⟨p, j, none⟩ = false) (hx : w.cell? ⟨b, off + n, none⟩ = some (ptr x)) (hxf : w.frozen? ⟨b, off + n, none⟩ = false) (hne : b ≠ p) (hn : n ≤ 1000000) (hcap : n + 1 ≤ cap) :
    Calls Try.prog 120 #[.pointer (some ⟨p, j, none⟩)] w fun e w' => e = .returned (ptr x) ∧ w' = (w.setCell ⟨b, off + n, none⟩ (.pointer none)).setCell ⟨p, j, none⟩ (.slice (some ⟨b, off, none⟩) n cap) := by
  have hc2 : (w.setCell ⟨b, off + n, none⟩ (.pointer none)).cell? ⟨p, j, none⟩ = some (.slice (some ⟨b, off, none⟩) (n + 1) cap) := by rw [World.cell?_setCell_other _ _ _ _ (fun e => hne (congrArg Addr.block e))]; exact hc
  have hf2 : (w.setCell ⟨b, off + n, none⟩ (.pointer none)).frozen? ⟨p, j, none⟩ = false := by rw [World.frozen?_setCell]; exact hf
  have n0 : (0 : Int) ≤ (n : Int) := by omega
  have n1 : (n : Int) < (n : Int) + 1 := by omega
  have n2 : (n : Int) + 1 - 1 = (n : Int) := by omega
  have n3 : (n : Int) ≤ (cap : Int) := by omega
  unfold ptr at *
  go_enter Try.func120, Try.ntmps120
  go_wp2_with fail
  go_ret
  exact ⟨rfl, rfl⟩
set_option maxRecDepth 100000 in
theorem full_any {x : Nat} {L : List Int} (h : IsBuf w x L) : Calls Try.prog 116 #[ptr x] w (Still (.bool (decide (L.length = 32))) w) := by
  have cl := Bu.len_any h
  have hs := h.small
  obtain ⟨b, hb⟩ : ∃ b, decide (L.length = 32) = b := ⟨_, rfl⟩
  have e : ((L.length : Int) == 32) = b := by
    rw [← hb]
    by_cases h : L.length = 32
    · rw [h]; rfl
    · rw [decide_eq_false h, beq_eq_false_iff_ne]; omega
  rw [hb]
  clear h hb hs
  unfold ptr
  generalize (L.length : Int) = l at *
  go_enter Try.func116, Try.ntmps116
  go_wp2_with fail
  with_reducible refine Calls.mono cl ?_
  rintro e w1 ⟨rfl, rfl⟩
  go_wp2_with fail
  go_ret
  exact ⟨rfl, rfl⟩
set_option maxRecDepth 100000 in
set_option maxHeartbeats 1000000 in
theorem turn_any {i x y : Nat} (h1 : w.cell? ⟨B, i * 3, none⟩ = some (ptr x)) (h2 : w.cell? ⟨B, i * 3 + 1, none⟩ = some (ptr y)) (f1 : w.frozen? ⟨B, i * 3, none⟩ = false) (f2 : w.frozen? ⟨B, i * 3 + 1, none⟩ = false) :
    Calls Try.prog 117 #[.pointer (some ⟨B, i * 3, none⟩)] w fun e w' => e = .returned (.tuple #[]) ∧ w'.heap = ((w.setCell ⟨B, i * 3, none⟩ (ptr y)).setCell ⟨B, i * 3 + 1, none⟩ (ptr x)).heap ∧ w'.os = w.os ∧ w'.tape = w.tape ∧ w'.output = w.output := by
  unfold ptr at *
  go_enter Try.func117, Try.ntmps117
  go_wp2_with fail
  go_region
  all_goals go_wp2_with fail
  all_goals go_end0
  all_goals exact ⟨rfl, rfl, rfl, rfl, rfl⟩
end Po
end Go.Proofs.Ytclldajbibhcbaa
