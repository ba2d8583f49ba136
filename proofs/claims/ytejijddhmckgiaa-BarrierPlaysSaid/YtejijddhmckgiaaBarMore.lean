/- Flush of package barrier; a barrier that a statement made. -/
import Derived.Test.YtejijddhmckgiaaBar
namespace Go.Proofs.Ytejijddhmckgiaa
open Go.RowKit Go.Lib Fx Ho Qu Rw
set_option linter.unusedVariables false
namespace Ba
variable {p : Nat} {L : Pairs} {w w' : World} {H H' : Home}
set_option maxRecDepth 100000 in
set_option maxHeartbeats 1000000 in
theorem flush_any (h : IsBar w p L) : Calls Try.prog 16 #[.pointer (some ⟨p, 0, none⟩)] w fun e w' => ∃ v', e = .returned v' ∧ Wrote (at_ p) w (at_ p) w' ∧ IsBar w' p [] ∧ OffRow w' v' (names L) ∧ Low w.heap.size (fun k => v'.ownBlock = some k) := by
  have hp := h.lt
  obtain ⟨A, F, G, h⟩ := h
  have hs := h.small
  have c1 := h.c1
  have hcells : Hid (∀ W, Below w.heap.size w W → W.cell? ⟨p, 32, none⟩ = some (.int .i64 L.length) ∧ W.frozen? ⟨p, 32, none⟩ = false ∧ ∀ i, i < L.length → W.cell? ⟨p, i * 2, none⟩ = some (.int .i64 (L.getD i (0, 0)).1) ∧ W.cell? ⟨p, i * 2 + 1, none⟩ = some (.int .i64 (L.getD i (0, 0)).2)) := fun W hb => by
    have h2 := h.wrote (H := fun _ => False) (Wrote.of_below hb) (fun h => h)
    refine ⟨h2.c1, h2.fz _, fun i hi => ?_⟩
    have e := h2.elems i hi
    have h3 := h2.row i (by omega)
    rw [← e]
    exact ⟨cell_of h2.head h3.1, cell_of h2.head h3.2⟩
  have hend : Hid (∀ W1, Below w.heap.size w W1 → ∀ W, W.heap = (W1.setCell ⟨p, 32, none⟩ (.int .i64 0)).heap → W.os = W1.os → W.tape = W1.tape → W.output = W1.output → ∀ v, OffRow W1 v (names L) → Low w.heap.size (fun k => v.ownBlock = some k) → Wrote (at_ p) w (at_ p) W ∧ IsBar W p [] ∧ OffRow W v (names L)) := fun W1 hb W a1 a2 a3 a4 v ho hl => by
    have h2 := h.wrote (H := fun _ => False) (Wrote.of_below hb) (fun h => h)
    have hw : Wrote (at_ p) W1 (at_ p) W := wrote_setCell (H := at_ p) (a := ⟨p, 32, none⟩) (u := .int .i64 0) a1 a2 a3 a4 rfl
    exact ⟨(Wrote.of_below hb).trans hw, (h2.emptied.of_heap a1).is_, ho.wrote hw (fun k hk e => by have := hl k hk; have e : k = p := e; omega)⟩
  have hmore := Lib.hid (names_more L)
  have hnl := Lib.hid (names_len L)
  have htk : Hid (L.take L.length = L) := List.take_length
  have hb0 := Lib.hid (below_drewN (Below.refl w.heap.size w) 1)
  clear h
  obtain ⟨n, hn⟩ : ∃ n, L.length = n := ⟨_, rfl⟩
  rw [hn] at hs c1 hcells hmore hnl htk
  have hs3 : (n : Int) ≤ 16 := by omega
  have hs0 : (0 : Int) ≤ (n : Int) := by omega
  clear hn
  go_enter Try.func16, Try.ntmps16
  go_wp2_with fail
  go_quiet (fail)
  go_wp2_with fail
  clear c1
  go_loopw [3, 5, 17] (fun v u i wr => ∃ (s : Option Addr) (c t j : Nat), v = .slice s t c ∧ i = .int .i64 j ∧ j ≤ n ∧ Hid (OffRow wr (.slice s t c) (names (L.take j))) ∧ Hid (Low w.heap.size (fun k => (Value.slice s t c).ownBlock = some k)) ∧ Hid (Below w.heap.size w wr)) (fun _ _ i _ => (n - (RowKit.intOf i).toNat))
  case atStart => exact ⟨none, 0, 0, 0, rfl, rfl, by omega, Lib.hid (offrow_nil _), Lib.hid (low_nil _), Lib.hid (below_drewN (Below.refl _ _) _)⟩
  case round =>
    obtain ⟨s, c, t, j, rfl, rfl, j1, hR, hLo, hB⟩ := hrel
    clear hb0
    obtain ⟨c32, f32, hcj⟩ := hcells.out wr hB.out
    by_cases hj : j < n
    · have i2 : (j : Int) < (n : Int) := by omega
      have i0 : (0 : Int) ≤ (j : Int) := by omega
      obtain ⟨k1, k2⟩ := hcj j hj
      have hm := hmore.out j hj
      have hl := hnl.out j j1
      have hl2 := addN_len (names (L.take j)) (L.getD j (0, 0)).1
      obtain ⟨x, hx⟩ : ∃ x, (L.getD j (0, 0)).1 = x := ⟨_, rfl⟩
      obtain ⟨y, hy⟩ : ∃ y, (L.getD j (0, 0)).2 = y := ⟨_, rfl⟩
      rw [hx] at k1 hm hl2
      rw [hy] at k2 hm
      have hbA := below_alloc (Below.refl wr.heap.size wr) (.cells #[.int .i64 x, .int .i64 y] 31)
      have hR1 := off_below hR.out hbA
      have cw := with_any x hR1 (by omega)
      have hsz : w.heap.size ≤ wr.heap.size := hB.out.size
      have hnx : Hid (∀ (w2 : World) (v2 : Value), OffRow w2 v2 (addN (names (L.take j)) x) → Wrote (fun k => (Value.slice s t c).ownBlock = some k) (wr.alloc (.cells #[.int .i64 x, .int .i64 y] 31)) (fun k => v2.ownBlock = some k) w2 → (∃ s c t, v2 = .slice s t c) ∧ w2.cell? ⟨wr.heap.size, 1, none⟩ = some (.int .i64 y) ∧
          Calls Try.prog 59 #[v2, .int .i64 y] w2 fun e w3 => ∃ s c t, e = .returned (.slice s t c) ∧ Hid (OffRow w3 (.slice s t c) (names (L.take (j + 1)))) ∧ Hid (Low w.heap.size (fun k => (Value.slice s t c).ownBlock = some k)) ∧ Hid (Below w.heap.size w w3)) := fun w2 v2 h1 h2 => by
        obtain ⟨s2, c2, e2⟩ := h1.slice
        have hlow2 := h2.low hLo.out (Nat.le_trans hsz hbA.size)
        have hb2 : Below w.heap.size w w2 := (hB.out.trans (hbA.mono hsz)).trans (below_of_wrote h2 hLo.out (Nat.le_trans hsz hbA.size))
        refine ⟨⟨s2, c2, _, e2⟩, h2.cell (cell_of (heap_alloc_new wr _) rfl) (fun e => by have := hR.out.lt e; have e2 : (⟨wr.heap.size, 1, none⟩ : Addr).block = wr.heap.size := rfl; omega), ?_⟩
        refine (with_any y h1 (by omega)).mono fun e w3 ⟨v3, he, h3, h4⟩ => ?_
        obtain ⟨s3, c3, e3⟩ := h3.slice
        rw [← hm] at h3
        have hlow3 := h4.low hlow2 hb2.size
        have hb3 := hb2.trans (below_of_wrote h4 hlow2 hb2.size)
        subst e3
        exact ⟨s3, c3, _, he, h3, hlow3, hb3⟩
      clear hx hy hm hl hl2 hR hR1 hLo hB hcj hbA
      go_wp2_with fail
      with_reducible refine Calls.mono cw ?_
      rintro e w2 ⟨v2, rfl, h1, h2⟩
      have hk := hnx.out w2 v2 h1 h2
      obtain ⟨⟨s2, c2, t2, rfl⟩, k3, cw2⟩ := hk
      clear cw hnx h1 h2
      go_wp2_with fail
      with_reducible refine Calls.mono cw2 ?_
      rintro e w3 ⟨s3, c3, t3, rfl, h3, h4, h5⟩
      clear cw2
      go_wp2_with fail
      go_roundw
      case rel => exact ⟨s3, c3, t3, j + 1, rfl, by go_num, by omega, h3, h4, h5⟩
      case measure => simp [RowKit.intOf]; omega
    · obtain rfl : j = n := by omega
      have hR2 : Hid (OffRow wr (.slice s t c) (names L)) := by have := hR.out; rw [htk.out] at this; exact this
      clear hR hcj hmore hnl htk
      go_wp2_with fail
      go_ret
      obtain ⟨e1, e2, e3⟩ := hend.out wr hB.out _ rfl rfl rfl rfl _ hR2.out hLo.out
      exact ⟨_, rfl, e1, e2, e3, hLo.out⟩
/-- A barrier that a statement made, and all else as it was. -/
structure Bb (W0 w : World) (p : Nat) (L : Pairs) : Prop where
  b : IsBar w p L
  lo : W0.heap.size ≤ p
  bel : Below W0.heap.size W0 w
namespace Bb
variable {W0 : World} {L' : Pairs}
theorem turns (h : Bb W0 w p L) (ht : Wrote (at_ p) w (at_ p) w') (hr : IsBar w' p L') : Bb W0 w' p L' :=
  ⟨hr, h.lo, ht.below (fun k hk => by rw [show k = p from hk]; exact h.lo) h.bel⟩
theorem below (h : Bb W0 w p L) (hb : Below w.heap.size w w') : Bb W0 w' p L := ⟨h.b.below hb, h.lo, h.bel.trans (hb.mono h.bel.size)⟩
theorem above {lo : Nat} (h : Bb W0 w p L) (hb : Below lo w w') (hl : p < lo) : Bb W0 w' p L :=
  ⟨h.b.wrote (H := fun k => lo ≤ k) (H' := fun k => lo ≤ k) ⟨hb.os, hb.tape, hb.output, hb.size, fun k _ hk => hb.block k (by omega), fun k hk => Or.inl hk⟩ (by omega), h.lo, h.bel.trans (hb.mono (by have := h.lo; omega))⟩
end Bb
section
variable {W0 : World}
theorem bb_new (w : World) : Calls Try.prog 10 #[] w fun e w' => e = .returned (.pointer (some ⟨w.heap.size, 0, none⟩)) ∧ Bb w w' w.heap.size [] :=
  (new_any w).mono fun _ _ ⟨he, hb, hr⟩ => ⟨he, hr, Nat.le_refl _, hb⟩
theorem bb_put (a b : Int) (hab : ¬ (a = 0 ∧ b = 0)) (h : Bb W0 w p L) (hl : L.length < 16) : Calls Try.prog 11 #[.pointer (some ⟨p, 0, none⟩), .int .i64 a, .int .i64 b] w fun e w' => e = .returned (.bool true) ∧ Bb W0 w' p (L ++ [(a, b)]) :=
  (put_room a b hab hl h.b).mono fun _ _ ⟨he, ht, hr⟩ => ⟨he, h.turns ht hr⟩
theorem bb_zero (h : Bb W0 w p L) (hl : L.length < 16) : Calls Try.prog 11 #[.pointer (some ⟨p, 0, none⟩), .int .i64 0, .int .i64 0] w fun e w' => e = .returned (.bool true) ∧ Bb W0 w' p L :=
  (put_zero hl h.b).mono fun _ _ ⟨he, ht, hr⟩ => ⟨he, h.turns ht hr⟩
theorem bb_flush (h : Bb W0 w p L) : Calls Try.prog 16 #[.pointer (some ⟨p, 0, none⟩)] w fun e w' => ∃ v', e = .returned v' ∧ Bb W0 w' p [] ∧ OffRow w' v' (names L) ∧ Low w.heap.size (fun k => v'.ownBlock = some k) ∧ Wrote (at_ p) w (at_ p) w' :=
  (flush_any h.b).mono fun _ _ ⟨v', he, ht, hr, ho, hl⟩ => ⟨v', he, h.turns ht hr, ho, hl, ht⟩
end
/-- Pairs as the cells of a slice. -/
def pcells : Pairs → List Value
  | [] => []
  | q :: L => .int .i64 q.1 :: .int .i64 q.2 :: pcells L
theorem pcells_len : ∀ L : Pairs, (pcells L).length = L.length * 2
  | [] => rfl
  | q :: L => by show (pcells L).length + 1 + 1 = (L.length + 1) * 2; rw [pcells_len L]; omega
theorem pcells_one : ∀ (L : Pairs), ∀ u ∈ pcells L, u.oneCell' = true
  | [], u, h => by cases h
  | q :: L, u, h => by
    rcases List.mem_cons.1 h with rfl | h
    · rfl
    · rcases List.mem_cons.1 h with rfl | h
      · rfl
      · exact pcells_one L u h
theorem pcells_at : ∀ (L : Pairs) (j : Nat) (u : Value), (pcells L)[j]? = some u → ∃ i, i < L.length ∧ (j = i * 2 ∧ u = .int .i64 (L.getD i (0, 0)).1 ∨ j = i * 2 + 1 ∧ u = .int .i64 (L.getD i (0, 0)).2)
  | [], j, u, h => by simp [pcells] at h
  | q :: L, 0, u, h => ⟨0, by simp, Or.inl ⟨rfl, by simpa [pcells] using h.symm⟩⟩
  | q :: L, 1, u, h => ⟨0, by simp, Or.inr ⟨rfl, by simpa [pcells] using h.symm⟩⟩
  | q :: L, j + 2, u, h => by
    obtain ⟨i, h1, h2⟩ := pcells_at L j u h
    exact ⟨i + 1, by simpa using h1, h2.imp (fun e => ⟨by omega, e.2⟩) (fun e => ⟨by omega, e.2⟩)⟩
theorem infoP : (Try.prog.info? 31).map (fun i => (i.zero, i.size, i.bytes)) = some (some (.agg #[.int .i64 0, .int .i64 0]), 2, 16) := by kernel_rfl
theorem own_emptyP {W : World} {lo N : Nat} (h : W.heap[N]? = some (.cells #[] 31 (0, 0))) (hN : lo ≤ N) : W.ownsRow lo 31 2 (.slice (some ⟨N, 0, none⟩) 0 0) 0 [] :=
  ⟨rfl, Or.inr ⟨N, 0, #[], rfl, hN, h, Nat.le_refl _, by unfold maxLen; omega, rfl, rfl⟩⟩
set_option maxRecDepth 100000 in
set_option maxHeartbeats 1000000 in
theorem clone_pairs {g o n cap : Nat} (hn : L.length = n) (hs : n ≤ 1000) (hcell : ∀ j u, (pcells L)[j]? = some u → w.cell? ⟨g, o + j, none⟩ = some u) :
    Calls Try.prog 58 #[.slice (some ⟨g, o, none⟩) n cap] w fun e w' => ∃ v', e = .returned v' ∧ Below w.heap.size w w' ∧ w'.ownsRow w.heap.size 31 2 v' n (pcells L) := by
  obtain ⟨i0, hi, hz0, hz1, hz2⟩ := info_parts infoP
  have hcl : (pcells L).length = n * 2 := by rw [pcells_len, hn]
  have hnews : Hid (∀ j u, (pcells L)[j]? = some u → (w.alloc (.cells #[] 31)).cell? ((⟨g, o, none⟩ : Addr).add j) = some u) := fun j u hj => by
    rw [addr_add]
    exact cell_then (below_alloc (Below.refl _ _) _) (hcell j u hj)
  have hone := Lib.hid (pcells_one L)
  have hemp := Lib.hid (own_emptyP (lo := w.heap.size) (heap_alloc_new w (.cells #[] 31)) (Nat.le_refl _))
  have hend : Hid (∀ (W : World) (v' : Value), W.ownsRow w.heap.size 31 2 v' (0 + n) ([] ++ pcells L) → (w.alloc (.cells #[] 31)).grownBy W (Value.slice (some ⟨w.heap.size, 0, none⟩) 0 0).ownBlock → Hid (Below w.heap.size w W ∧ W.ownsRow w.heap.size 31 2 v' n (pcells L))) := fun W v' h1 h2 => by
    rw [Nat.zero_add, List.nil_append] at h1
    exact ⟨(below_alloc (Below.refl _ _) _).trans (Below.grown (Below.refl _ _) h2 (by show _ ≤ (w.heap.push _).size; rw [Array.size_push]; omega) (fun k hk => Nat.le_of_eq (Option.some.inj hk))), h1⟩
  have he : ∀ W : World, Sem.run Try.prog (binOp BinOp.eql 22 (.slice (some ⟨g, o, none⟩) n cap) (.slice none 0 0)) W = Result.ok (.bool false) W := fun W => by rfl
  clear hcell hn
  generalize pcells L = CZ at *
  go_enter Try.func58, Try.ntmps58
  go_wp2_with (at_builtin; refine wpList_append_own _ rfl _ _ 22 rfl w.heap.size 31 i0 (.agg #[.int .i64 0, .int .i64 0]) 2 16 Try.underlying22 hi hz0 hz1 hz2 rfl (by decide) _ 0 [] rfl hemp.out ⟨g, o, none⟩ n cap CZ rfl hcl hnews.out hone.out (by unfold maxLen; omega) (by omega) (by show _ ≤ (w.heap.push _).size; rw [Array.size_push]; omega) ?_; intro v' w1 hown1 hgrow1 hnil; clear hnil; have hfin := hend.out w1 v' hown1 hgrow1; clear hown1 hgrow1 hend)
  go_ret
  exact ⟨_, rfl, hfin.out⟩
set_option maxRecDepth 100000 in
theorem all_any (h : IsBar w p L) : Calls Try.prog 13 #[.pointer (some ⟨p, 0, none⟩)] w fun e w' => ∃ v', e = .returned v' ∧ Below w.heap.size w w' ∧ w'.ownsRow w.heap.size 31 2 v' L.length (pcells L) := by
  obtain ⟨A, F, G, h⟩ := h
  have hs := h.small
  have c1 := h.c1
  have cc : Hid (∀ n, L.length = n → ∀ c, Calls Try.prog 58 #[.slice (some ⟨p, 0, none⟩) n 16] (w.drewN c) fun e w' => ∃ v', e = .returned v' ∧ Below w.heap.size w w' ∧ w'.ownsRow w.heap.size 31 2 v' n (pcells L)) := fun n hn c =>
    (clone_pairs (w := w.drewN c) hn (by omega) (fun j u hj => by
      rw [Nat.zero_add]
      obtain ⟨i, h1, h2⟩ := pcells_at L j u hj
      have e := h.elems i h1
      have h3 := h.row i (by omega)
      rw [← e] at h2
      rcases h2 with ⟨rfl, rfl⟩ | ⟨rfl, rfl⟩
      · exact cell_of h.head h3.1
      · exact cell_of h.head h3.2)).mono fun _ _ ⟨v', a, b, d⟩ => ⟨v', a, (below_drewN (Below.refl _ _) c).trans b, d⟩
  clear h
  have cc2 := Lib.hid (cc.out _ rfl)
  clear cc
  have hs3 : (L.length : Int) ≤ 16 := by omega
  have hs0 : (0 : Int) ≤ (L.length : Int) := by omega
  generalize pcells L = C at *
  generalize L.length = n at *
  go_enter Try.func13, Try.ntmps13
  go_wp2_with fail
  go_still_tail 8, (by kernel_rfl)
  change wpList _ _ _ _ _ w.drew
  have cw := cc2.out 1
  replace cw : Calls Try.prog 58 #[.slice (some ⟨p, 0, none⟩) n 16] w.drew _ := cw
  clear cc2
  go_wp2_with fail
  with_reducible refine Calls.mono cw ?_
  rintro e w2 ⟨v', rfl, hb, ho⟩
  obtain ⟨sp, cap, rfl⟩ := own_slice ho
  go_wp2_with fail
  go_ret
  exact ⟨_, rfl, hb, ho⟩
set_option maxRecDepth 100000 in
set_option maxHeartbeats 2000000 in
theorem told_any (w : World) : Calls Try.prog 18 #[] w fun e w' => e = .returned (.bool true) ∧ Below w.heap.size w w' := by
  have cn := bb_new w
  obtain ⟨p, hp⟩ : ∃ p, w.heap.size = p := ⟨_, rfl⟩
  rw [hp] at cn
  clear hp
  go_enter Try.func18, Try.ntmps18
  go_wp2_with fail
  with_reducible refine Calls.mono (cn) ?_
  rintro e w1 ⟨rfl, hs1⟩
  have cs := bb_put 5 0 (by decide) hs1 (by decide)
  clear cn
  go_wp2_with fail
  with_reducible refine Calls.mono (cs) ?_
  rintro e w2 ⟨rfl, hs2⟩
  clear hs1 cs
  have cs := bb_put 5 6 (by decide) hs2 (by decide)
  go_wp2_with fail
  with_reducible refine Calls.mono (cs) ?_
  rintro e w3 ⟨rfl, hs3⟩
  clear hs2 cs
  have cs := bb_zero hs3 (by decide)
  go_wp2_with fail
  with_reducible refine Calls.mono (cs) ?_
  rintro e w4 ⟨rfl, hs4⟩
  clear hs3 cs
  have cs := all_any hs4.b
  go_wp2_with fail
  with_reducible refine Calls.mono (cs) ?_
  rintro e w5 ⟨v5, rfl, hb5, ho5⟩
  have hs5 := hs4.below hb5
  have cl : Calls Try.prog 14 #[.pointer (some ⟨p, 0, none⟩)] w5 (Still (.int .i64 2) w5) := len_any hs5.b
  have cf := bb_flush hs5
  have ho : w5.ownsRow w4.heap.size 31 2 v5 2 [.int .i64 5, .int .i64 0, .int .i64 5, .int .i64 6] := ho5
  have hcells : ∃ g cap, v5 = .slice (some ⟨g, 0, none⟩) 2 cap ∧ w5.cell? ⟨g, 2, none⟩ = some (.int .i64 5) ∧ w5.cell? ⟨g, 3, none⟩ = some (.int .i64 6) := by
    have ho1 := ho
    rcases ho.2 with ⟨_, h2⟩ | ⟨g, cap, cur, rfl, _⟩
    · omega
    · refine ⟨g, cap, rfl, ?_, ?_⟩
      · have := ho1.cells (g := g) rfl 2 (.int .i64 5) rfl
        rwa [addr_add] at this
      · have := ho1.cells (g := g) rfl 3 (.int .i64 6) rfl
        rwa [addr_add] at this
  obtain ⟨g, cap, rfl, k2, k3⟩ := hcells
  clear hs4 cs hb5 ho5 ho hs5
  go_wp2_with fail
  with_reducible refine Calls.mono (cl) ?_
  rintro e w6 ⟨rfl, rfl⟩
  clear cl
  go_wp2_with fail
  with_reducible refine Calls.mono (cf) ?_
  rintro e w7 ⟨v7, rfl, hs7, ho7, _, _⟩
  have ho7 : OffRow w7 v7 [5, 6] := ho7
  have hi7 := ho7.ints
  have hA : Below w7.heap.size w7 (w7.alloc (.cells #[.int .i64 5, .int .i64 6] 3)) := below_alloc (Below.refl _ _) _
  have hi8 := hi7.below hA
  have hl8 := Rw.ints_lit w7 [5, 6] 2 rfl (by omega) (A := #[.int .i64 5, .int .i64 6]) rfl
  have ci := ints_any hi8 hl8
  have hs8 := Lib.hid (hs7.below hA)
  obtain ⟨sp7, cap7, rfl⟩ := ho7.slice
  clear cf hs7 ho7 hi7 hA hi8 hl8 k2 k3
  go_wp2_with fail
  with_reducible refine Calls.mono (ci) ?_
  rintro e w9 ⟨rfl, j, rfl⟩
  have hs9 := hs8.out.below (below_drewN (Below.refl _ _) j)
  have cl : Calls Try.prog 14 #[.pointer (some ⟨p, 0, none⟩)] _ (Still (.int .i64 0) _) := len_any hs9.b
  have hfin := Lib.hid hs9.bel
  clear ci hs8 hs9
  go_wp2_with fail
  with_reducible refine Calls.mono (cl) ?_
  rintro e w10 ⟨rfl, rfl⟩
  clear cl
  go_wp2_with fail
  go_ret
  exact ⟨rfl, hfin.out⟩
end Ba
end Go.Proofs.Ytejijddhmckgiaa
