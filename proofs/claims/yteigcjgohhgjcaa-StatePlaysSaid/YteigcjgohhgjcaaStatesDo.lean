/- What Spawn, Move and Alive of package state answer and make; what the statements' own question after a few answers. -/
import Derived.Test.YteigcjgohhgjcaaStates
import Derived.RegionTactic
namespace Go.Proofs.Yteigcjgohhgjcaa
open Go.RowKit Go.Lib Fx Ho
set_option linter.unusedVariables false
namespace St
variable {w W W1 : World} {p : Nat} {v v1 : Value} {L : List Int}

theorem grown_of_wrote {H H' : Home} {a b : World} {r : Nat} (h : Wrote H a H' b) (hr : ∀ k, H k → k = r) : a.grownBy b (some r) :=
  ⟨h.os, h.tape, h.output, h.size, fun k hk hn => h.block k hk (fun h' => hn (by rw [hr k h']))⟩
theorem spawn_key (h : IsSt w p v L) {o : Obj} (hg : (w.alloc o).grownBy W1 v.ownBlock) (hw : v1.ownBlock = v.ownBlock ∨ v1.ownBlock = some (w.alloc o).heap.size) :
    W1.heap[p]? = w.heap[p]? ∧ Wrote (home p v) w (home p v1) W1 ∧ v1.ownBlock ≠ some p := by
  have hp := block_lt h.head
  have hsz : (w.alloc o).heap.size = w.heap.size + 1 := by show (w.heap.push o).size = _; rw [Array.size_push]
  refine ⟨?_, ⟨hg.os, hg.tape, hg.output, by have := hg.size; omega, fun k hk ho => ?_, fun k hk => ?_⟩, ?_⟩
  · rw [hg.block p (by omega) (fun e => h.off e.symm)]; exact Below.heap_alloc w o p hp
  · rw [hg.block k (by omega) (fun e => ho (Or.inr e.symm))]; exact Below.heap_alloc w o k hk
  · rcases hk with rfl | hk
    · exact Or.inl (Or.inl rfl)
    · rcases hw with hw | hw
      · exact Or.inl (Or.inr (hw ▸ hk))
      · rw [hw] at hk; have := Option.some.inj hk; exact Or.inr (by omega)
  · rcases hw with hw | hw
    · rw [hw]; exact h.off
    · rw [hw]; intro e; have := Option.some.inj e; omega
/-- The states as they are once a goroutine's row has grown and the head is written. -/
theorem spawn_end (h : IsSt w p v L) (hs : L.length < 1024) (h1 : W1.heap[p]? = w.heap[p]?) (hw : Wrote (home p v) w (home p v1) W1) (hoff : v1.ownBlock ≠ some p)
    (hown : W1.ownsRow 0 3 1 v1 (L.length + 1) (cells L ++ [.int .i64 1]))
    (hh : W.heap = ((W1.setCell ⟨p, 0, none⟩ v1).setCell ⟨p, 2, none⟩ (.int .i64 (cnt L 1 + 1))).heap) (ho : W.os = W1.os) (ht : W.tape = W1.tape) (hu : W.output = W1.output) :
    ∃ v', Wrote (home p v) w (home p v') W ∧ IsSt W p v' (L ++ [1]) := by
  have hw2 : Wrote (fun k => k = p) W1 (fun k => k = p) W := (wrote_setCell (H := fun k => k = p) (a := ⟨p, 0, none⟩) (u := v1) rfl rfl rfl rfl rfl).trans (wrote_setCell (H := fun k => k = p) (a := ⟨p, 2, none⟩) (u := .int .i64 (cnt L 1 + 1)) hh ho ht hu rfl)
  have hw3 : Wrote (home p v1) W1 (home p v1) W := ⟨hw2.os, hw2.tape, hw2.output, hw2.size, fun k hk hn => hw2.block k hk (fun e => hn (Or.inl e)), fun _ h => Or.inl h⟩
  refine ⟨v1, hw.trans hw3, ⟨?_, ?_, hoff, ?_, ?_⟩⟩
  · rw [hh, heap_setCell_same _ p 2 _ _ _ (heap_setCell_same _ p 0 _ _ _ (h1.trans h.head))]
    rw [cnt_app, cnt_app, cnt_app, cnt_app, cnt_app, cnt_app]
    simp [cnt]
  · have := hown.kept (grown_of_wrote hw2 (fun _ h => h)) (Or.inr hoff)
    rw [cells_app, List.length_append]; exact this
  · intro x hx
    rcases List.mem_append.1 hx with hx | hx
    · exact h.mem x hx
    · obtain rfl := List.mem_singleton.1 hx; omega
  · rw [List.length_append, List.length_singleton]; omega
set_option maxRecDepth 100000 in
set_option maxHeartbeats 1000000 in
theorem spawn_any (w : World) (h : IsSt w p v L) (hs : L.length < 1024) : Calls Try.prog 39 #[.pointer (some ⟨p, 0, none⟩)] w (Turns (.tuple #[.int .i64 L.length, .int .i64 0]) w p v (L ++ [1])) := by
  have c0 := h.c0
  have hown := h.own
  have hc := cnt_in L 1
  have key : Hid (∀ W1 v1, W1.ownsRow 0 3 1 v1 (L.length + 1) (cells L ++ [.int .i64 1]) → (w.alloc (.cells #[.int .i64 1] 3)).grownBy W1 v.ownBlock → (v1.ownBlock = v.ownBlock ∨ v1.ownBlock = some (w.alloc (.cells #[.int .i64 1] 3)).heap.size) →
      W1.cell? ⟨p, 0, none⟩ = some v ∧ W1.cell? ⟨p, 2, none⟩ = some (.int .i64 (cnt L 1)) ∧ (∀ i, W1.frozen? ⟨p, i, none⟩ = false) ∧
      Hid (∀ W, W.heap = ((W1.setCell ⟨p, 0, none⟩ v1).setCell ⟨p, 2, none⟩ (.int .i64 (cnt L 1 + 1))).heap → W.os = W1.os → W.tape = W1.tape → W.output = W1.output → ∃ v', Wrote (home p v) w (home p v') W ∧ IsSt W p v' (L ++ [1]))) := by
    intro W1 v1 ho hg hwh
    obtain ⟨e1, e2, e3⟩ := spawn_key h hg hwh
    have hd := e1.trans h.head
    exact ⟨cell_of hd rfl, cell_of hd rfl, fun i => frozen_of_row W1 p i _ _ hd, fun W a1 a2 a3 a4 => spawn_end h hs e1 e2 e3 ho a1 a2 a3 a4⟩
  obtain ⟨sp, cap, rfl⟩ := own_slice h.own
  have hl : ((L.length : Int) == 1024) = false := by rw [beq_eq_false_iff_ne]; omega
  obtain ⟨i0, hi, hz0, hz1, hz2⟩ := info_parts infoI
  replace hown := Lib.hid hown
  have hcl := h.own.1
  clear h
  generalize cells L = CL at *
  unfold Turns
  generalize L.length = n at *
  generalize cnt L 1 = c at *
  go_enter Try.func39, Try.ntmps39
  go_wp2_with (at_builtin; go_loud (refine wpList_append_apart rfl (.tmp 18) (.tmp 19) 26 rfl 0 3 i0 (.int .i64 0) 1 8 Try.underlying26 hi hz0 hz1 hz2 rfl (by decide) _ n CL rfl (hown.out.alloc _) ⟨w.heap.size, 0, none⟩ 1 1 [.int .i64 1] rfl rfl (news_one w (.int .i64 1) 3) (fun x hx => by simp at hx; subst hx; rfl) (by unfold maxLen; omega) (by omega) (Nat.zero_le _) (by omega) ?_); intro v1 w1 hown1 hgrow1 hwhere1; have hk := key.out w1 v1 hown1 hgrow1 hwhere1; obtain ⟨f0, f2, ff, hfin⟩ := hk; obtain ⟨sp1, cap1, rfl⟩ := own_slice hown1; clear hown1 hgrow1 hwhere1 key; have ff0 := ff 0; have ff2 := ff 2; clear ff)
  go_region
  all_goals go_wp2_with fail
  all_goals go_ret2
  all_goals exact ⟨rfl, hfin.out _ rfl rfl rfl rfl⟩
set_option maxRecDepth 100000 in
theorem spawn_full (w : World) (h : IsSt w p v L) (hs : L.length = 1024) : Calls Try.prog 39 #[.pointer (some ⟨p, 0, none⟩)] w (Still (.tuple #[.int .i64 0, .int .i64 3]) w) := by
  have c0 := h.c0
  obtain ⟨sp, cap, rfl⟩ := own_slice h.own
  have hl : (L.length : Int) = 1024 := by omega
  rw [hs] at c0
  clear h hs hl
  go_enter Try.func39, Try.ntmps39
  go_wp2_with fail
  go_ret2
  exact ⟨rfl, rfl⟩
set_option maxRecDepth 100000 in
theorem spawn_nil (w : World) : Calls Try.prog 39 #[.pointer none] w (Still (.tuple #[.int .i64 0, .int .i64 1]) w) := by
  go_enter Try.func39, Try.ntmps39
  go_wp2_with fail
  go_ret2
  exact ⟨rfl, rfl⟩

/-- The states as they are once a goroutine has come to another state. -/
theorem move_end (h : IsSt w p v L) {g : Nat} (hg : g < L.length) {f t : Int} (hf : L.getD g 0 = f) (hm : mayB f t = true) (hb : Below w.heap.size w W1) {b cap : Nat} (hv : v = .slice (some ⟨b, 0, none⟩) L.length cap)
    (hh : W.heap = (((W1.setCell ⟨b, g, none⟩ (.int .i64 t)).setCell ⟨p, 1 + f.toNat, none⟩ (.int .i64 (cnt L f - 1))).setCell ⟨p, 1 + t.toNat, none⟩ (.int .i64 (cnt L t + 1))).heap) (ho : W.os = W1.os) (ht : W.tape = W1.tape) (hu : W.output = W1.output) :
    ∃ v', Wrote (home p v) w (home p v') W ∧ IsSt W p v' (L.set g t) := by
  subst hv
  have h1 := h.below hb
  have hbp : b ≠ p := fun e => h.off (by rw [← e]; rfl)
  have hst := h1.own.stored g (.int .i64 t)
  rw [cells_set] at hst
  have wa : Wrote (fun k => k = b) W1 (fun k => k = b) (W1.setCell ⟨b, g, none⟩ (.int .i64 t)) := wrote_setCell (a := ⟨b, g, none⟩) (u := .int .i64 t) rfl rfl rfl rfl rfl
  have wb : Wrote (fun k => k = p) (W1.setCell ⟨b, g, none⟩ (.int .i64 t)) (fun k => k = p) W := (wrote_setCell (H := fun k => k = p) (a := ⟨p, 1 + f.toNat, none⟩) (u := .int .i64 (cnt L f - 1)) rfl rfl rfl rfl rfl).trans (wrote_setCell (H := fun k => k = p) (a := ⟨p, 1 + t.toNat, none⟩) (u := .int .i64 (cnt L t + 1)) hh ho ht hu rfl)
  have hw : Wrote (home p (.slice (some ⟨b, 0, none⟩) L.length cap)) W1 (home p (.slice (some ⟨b, 0, none⟩) L.length cap)) W :=
    ⟨wb.os.trans wa.os, wb.tape.trans wa.tape, wb.output.trans wa.output, Nat.le_trans wa.size wb.size, fun k hk hn => (wb.block k (Nat.lt_of_lt_of_le hk wa.size) (fun e => hn (Or.inl e))).trans (wa.block k hk (fun e => hn (Or.inr (by rw [e]; rfl)))), fun _ h => Or.inl h⟩
  have hr := may_cases hm
  refine ⟨_, (Wrote.of_below hb).trans hw, ⟨?_, ?_, h.off, ?_, ?_⟩⟩
  · have e0 : (W1.setCell ⟨b, g, none⟩ (.int .i64 t)).heap[p]? = W1.heap[p]? := Below.heap_setCell _ _ _ _ (fun e => hbp e.symm)
    rw [hh, heap_setCell_same _ p _ _ _ _ (heap_setCell_same _ p _ _ _ _ (e0.trans h1.head))]
    rw [cnt_set f t 0 L g hg hf, cnt_set f t 1 L g hg hf, cnt_set f t 2 L g hg hf, cnt_set f t 3 L g hg hf, cnt_set f t 4 L g hg hf, cnt_set f t 5 L g hg hf]
    rcases hr with ⟨rfl, rfl⟩ | ⟨rfl, rfl⟩ | ⟨rfl, rfl⟩ | ⟨rfl, rfl⟩ | ⟨rfl, rfl⟩ | ⟨rfl, rfl⟩ | ⟨rfl, rfl⟩
    all_goals simp
  · rw [List.length_set]
    exact hst.1.kept (grown_of_wrote wb (fun _ h => h)) (Or.inr h.off)
  · intro x hx
    rcases List.mem_or_eq_of_mem_set hx with hx | rfl
    · exact h.mem x hx
    · omega
  · rw [List.length_set]; exact h.small
set_option maxRecDepth 100000 in
set_option maxHeartbeats 4000000 in
theorem move_ok (g : Nat) (t : Int) (hg : g < L.length) (hm : mayB (L.getD g 0) t = true) (w : World) (h : IsSt w p v L) : Calls Try.prog 41 #[.pointer (some ⟨p, 0, none⟩), .int .i64 g, .int .i64 t] w (Turns (.int .i64 0) w p v (L.set g t)) := by
  have ch := has_yes g hg w h
  have c0 := h.c0
  obtain ⟨b, cap, hv, k1, k2, k3, k4⟩ := own_at h.own hg
  obtain ⟨f, hf⟩ : ∃ f, L.getD g 0 = f := ⟨_, rfl⟩
  rw [hf] at hm k3
  have hcf := cnt_pos f L g hg hf
  have hct := cnt_in L t
  have hcf2 := cnt_in L f
  have hsm := h.small
  have cm := fun w => may_any f t w
  rw [hm] at cm
  have key : Hid (∀ W1, Below w.heap.size w W1 → W1.cell? ⟨p, 0, none⟩ = some (.slice (some ⟨b, 0, none⟩) L.length cap) ∧ W1.cell? ⟨p, 1 + f.toNat, none⟩ = some (.int .i64 (cnt L f)) ∧ W1.cell? ⟨p, 1 + t.toNat, none⟩ = some (.int .i64 (cnt L t)) ∧ (∀ i, W1.frozen? ⟨p, i, none⟩ = false) ∧ W1.cell? ⟨b, g, none⟩ = some (.int .i64 f) ∧ W1.frozen? ⟨b, g, none⟩ = false ∧
      Hid (∀ W, W.heap = (((W1.setCell ⟨b, g, none⟩ (.int .i64 t)).setCell ⟨p, 1 + f.toNat, none⟩ (.int .i64 (cnt L f - 1))).setCell ⟨p, 1 + t.toNat, none⟩ (.int .i64 (cnt L t + 1))).heap → W.os = W1.os → W.tape = W1.tape → W.output = W1.output → ∃ v', Wrote (home p v) w (home p v') W ∧ IsSt W p v' (L.set g t))) := by
    intro W1 hb
    have h1 := h.below hb
    have hr := may_cases hm
    have hcell : ∀ k : Int, 0 ≤ k ∧ k ≤ 5 → W1.cell? ⟨p, 1 + k.toNat, none⟩ = some (.int .i64 (cnt L k)) := fun k hk => by
      rcases (show k = 0 ∨ k = 1 ∨ k = 2 ∨ k = 3 ∨ k = 4 ∨ k = 5 by omega) with rfl | rfl | rfl | rfl | rfl | rfl
      · exact h1.c1
      · exact h1.c2
      · exact h1.c3
      · exact h1.c4
      · exact h1.c5
      · exact h1.c6
    refine ⟨hv ▸ h1.c0, hcell f (by omega), hcell t (by omega), fun i => frozen_of_row W1 p i _ _ h1.head, cell_then hb k3, ?_, fun W a1 a2 a3 a4 => move_end h hg hf hm hb hv a1 a2 a3 a4⟩
    rw [hb.frozen (show (⟨b, g, none⟩ : Addr).block < _ from k2)]; exact k4
  have hbp : Hid (b ≠ p) := fun e => h.off (by rw [hv, ← e]; rfl)
  subst hv
  have hr := may_cases hm
  clear h hm hf
  have h1 : (0 : Int) ≤ (g : Int) := by omega
  have h2 : (g : Int) < (L.length : Int) := by omega
  unfold Turns
  generalize L.length = n at *
  rcases hr with ⟨rfl, rfl⟩ | ⟨rfl, rfl⟩ | ⟨rfl, rfl⟩ | ⟨rfl, rfl⟩ | ⟨rfl, rfl⟩ | ⟨rfl, rfl⟩ | ⟨rfl, rfl⟩
  all_goals
    generalize cnt L 1 = e1 at *
    generalize cnt L 2 = e2 at *
    generalize cnt L 3 = e3 at *
    generalize cnt L 4 = e4 at *
    generalize cnt L 5 = e5 at *
    go_enter Try.func41, Try.ntmps41
    go_wp2_with (first | (go_at_call 57; ((with_reducible refine ch.mono ?_); rintro e w' ⟨rfl, rfl⟩)) | (go_at_call 47; ((with_reducible refine (cm _).mono ?_); rintro e w1 ⟨rfl, hb⟩; have hk := key.out w1 hb; obtain ⟨f0, f1, f2, ff, f3, f4, hfin⟩ := hk; simp only [show (1 : Int).toNat = 1 from rfl, show (2 : Int).toNat = 2 from rfl, show (3 : Int).toNat = 3 from rfl, show (4 : Int).toNat = 4 from rfl, show (5 : Int).toNat = 5 from rfl, Nat.reduceAdd] at f1 f2 hfin; clear key hb ch cm c0 k3 k4; have x1 := ff 1; have x2 := ff 2; have x3 := ff 3; have x4 := ff 4; have x5 := ff 5; have x6 := ff 6; clear ff; have hne := hbp.out; have hne2 : p ≠ b := fun e => hne e.symm)))
    go_region
    all_goals go_wp2_with fail
    all_goals go_region
    all_goals go_wp2_with fail
    all_goals go_ret
    all_goals exact ⟨rfl, hfin.out _ rfl rfl rfl rfl⟩
set_option maxRecDepth 100000 in
set_option maxHeartbeats 1000000 in
theorem move_not (g : Nat) (t : Int) (hg : g < L.length) (hm : mayB (L.getD g 0) t = false) (w : World) (h : IsSt w p v L) : Calls Try.prog 41 #[.pointer (some ⟨p, 0, none⟩), .int .i64 g, .int .i64 t] w (AnsB (.int .i64 5) w) := by
  have ch := has_yes g hg w h
  have c0 := h.c0
  obtain ⟨b, cap, rfl, k1, k2, k3, k4⟩ := own_at h.own hg
  have cm := fun w => may_any (L.getD g 0) t w
  rw [hm] at cm
  clear h hm
  generalize L.getD g 0 = f at *
  generalize L.length = n at *
  have h1 : (0 : Int) ≤ (g : Int) := by omega
  have h2 : (g : Int) < (n : Int) := by omega
  go_enter Try.func41, Try.ntmps41
  go_wp2_with (first | (go_at_call 57; ((with_reducible refine ch.mono ?_); rintro e w' ⟨rfl, rfl⟩)) | (go_at_call 47; ((with_reducible refine (cm _).mono ?_); rintro e w1 ⟨rfl, hb⟩)))
  go_ret
  exact ⟨rfl, hb⟩
set_option maxRecDepth 100000 in
theorem move_none (g : Int) (t : Int) (hg : ¬ (0 ≤ g ∧ g < L.length)) (w : World) (h : IsSt w p v L) : Calls Try.prog 41 #[.pointer (some ⟨p, 0, none⟩), .int .i64 g, .int .i64 t] w (Still (.int .i64 4) w) := by
  have ch := has_no g hg w h
  clear h hg
  go_enter Try.func41, Try.ntmps41
  go_wp2_with (go_at_call 57; ((with_reducible refine ch.mono ?_); rintro e w' ⟨rfl, rfl⟩))
  go_ret
  exact ⟨rfl, rfl⟩

end St
end Go.Proofs.Yteigcjgohhgjcaa
