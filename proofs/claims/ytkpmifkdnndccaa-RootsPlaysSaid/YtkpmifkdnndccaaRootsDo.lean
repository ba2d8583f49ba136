/- What Next, Add and New of package roots answer and make of jobs. -/
import Derived.Test.YtkpmifkdnndccaaRoots
import Derived.StillTailTactics
import Derived.Deep.RegionHeld3
import Derived.Deep.RegionWith
namespace Go.Proofs.Ytkpmifkdnndccaa
open Go.RowKit Go.Lib Fx Ho Gr Qu Rw
set_option linter.unusedVariables false
namespace Ro
variable {w w' : World} {p : Nat} {lv sv : Value} {J : List Job} {fr t : Int} {c : Nat} {S : List Int} {H H' : Home}
/-- A job, as it is answered. -/
abbrev jv (j : Job) : Value := .agg #[.int .i64 j.1, .int .i64 j.2.1, .int .i64 j.2.2]
/-- The first job goes out. -/
theorem IsRo.took {sp a1 : Option Addr} {cap : Nat} {j : Job} (h : IsRo w p (.slice sp (j :: J).length cap) sv (j :: J) fr t c S) (ha : a1 = sp.map (·.add 3) ∨ cap = 1 ∧ a1 = sp) :
    IsRo (w.setCell ⟨p, 0, none⟩ (.slice a1 J.length (cap - 1))) p (.slice a1 J.length (cap - 1)) sv J fr t c S ∧ Wrote (home p (.slice sp (j :: J).length cap) sv) w (home p (.slice a1 J.length (cap - 1)) sv) (w.setCell ⟨p, 0, none⟩ (.slice a1 J.length (cap - 1))) := by
  have hd := h.laid.drop (k := 1) (a1 := a1) (by simp) (by simpa using ha)
  obtain ⟨hg, ho⟩ := hd
  rw [show (jcells (j :: J)).drop (1 * 3) = jcells J from jcells_drop 1 (j :: J), show (j :: J).length - 1 = J.length by simp] at hg
  rw [show (j :: J).length - 1 = J.length by simp] at ho
  have hw2 : Wrote (fun k => k = p) w (fun k => k = p) (w.setCell ⟨p, 0, none⟩ (.slice a1 J.length (cap - 1))) := wrote_setCell (H := fun k => k = p) (a := ⟨p, 0, none⟩) (u := .slice a1 J.length (cap - 1)) rfl rfl rfl rfl rfl
  have o1 : (Value.slice a1 J.length (cap - 1)).ownBlock ≠ some p := fun e => h.o1 (ho p e)
  refine ⟨⟨?_, hg.wrote hw2 (fun k hk e => o1 (by rw [hk, e])), h.st.wrote hw2 (fun k hk e => h.o2 (by rw [hk, e])), o1, h.o2, fun k hk => h.o3 k (ho k hk), h.b0, h.b1, h.b2, h.bc, by have := h.bj; simp at this; omega⟩, ⟨hw2.os, hw2.tape, hw2.output, hw2.size, fun k hk hn => hw2.block k hk (fun e => hn (Or.inl e)), fun k hk => Or.inl ?_⟩⟩
  · rw [heap_setCell_same _ p 0 _ _ _ h.head]; rfl
  · rcases hk with hk | hk | hk
    · exact Or.inl hk
    · exact Or.inr (Or.inl (ho k hk))
    · exact Or.inr (Or.inr hk)
/-- The first stack goes out. -/
theorem IsRo.left {sp a1 : Option Addr} {cap : Nat} {g : Int} (h : IsRo w p lv (.slice sp (g :: S).length cap) J fr t c (g :: S)) (ha : a1 = sp.map (·.add 1) ∨ cap = 1 ∧ a1 = sp) :
    IsRo (w.setCell ⟨p, 3, none⟩ (.slice a1 S.length (cap - 1))) p lv (.slice a1 S.length (cap - 1)) J fr t c S ∧ Wrote (home p lv (.slice sp (g :: S).length cap)) w (home p lv (.slice a1 S.length (cap - 1))) (w.setCell ⟨p, 3, none⟩ (.slice a1 S.length (cap - 1))) := by
  have hg := h.st.drop (n := 1) (a1 := a1) (by simp) ha
  rw [show (g :: S).drop 1 = S from rfl, show (g :: S).length - 1 = S.length by simp] at hg
  have ho : ∀ b, (Value.slice a1 S.length (cap - 1)).ownBlock = some b → (Value.slice sp (g :: S).length cap).ownBlock = some b := fun b hb => by
    rcases ha with rfl | ⟨_, rfl⟩
    · exact own_some hb
    · exact own_same hb
  have hw2 : Wrote (fun k => k = p) w (fun k => k = p) (w.setCell ⟨p, 3, none⟩ (.slice a1 S.length (cap - 1))) := wrote_setCell (H := fun k => k = p) (a := ⟨p, 3, none⟩) (u := .slice a1 S.length (cap - 1)) rfl rfl rfl rfl rfl
  have o2 : (Value.slice a1 S.length (cap - 1)).ownBlock ≠ some p := fun e => h.o2 (ho p e)
  refine ⟨⟨?_, h.laid.wrote hw2 (fun k hk e => h.o1 (by rw [hk, e])), hg.wrote hw2 (fun k hk e => o2 (by rw [hk, e])), h.o1, o2, fun k hk e => h.o3 k hk (ho k e), h.b0, h.b1, h.b2, h.bc, h.bj⟩, ⟨hw2.os, hw2.tape, hw2.output, hw2.size, fun k hk hn => hw2.block k hk (fun e => hn (Or.inl e)), fun k hk => Or.inl ?_⟩⟩
  · rw [heap_setCell_same _ p 3 _ _ _ h.head]; rfl
  · rcases hk with hk | hk | hk
    · exact Or.inl hk
    · exact Or.inr (Or.inl hk)
    · exact Or.inr (Or.inr (ho k hk))
/-- Next answers so, and the jobs are so then. -/
def NextP (r : Value) (w : World) (p : Nat) (lv sv : Value) (t : Int) (A : List Job) (S' : List Int) (e : Ending) (w' : World) : Prop := e = .returned r ∧ ∃ lv' sv' J' fr' c', Wrote (home p lv sv) w (home p lv' sv') w' ∧ IsRo w' p lv' sv' J' fr' t c' S' ∧ J' ++ gj t c' fr' = A
theorem wrote_new {H : Home} {w w' : World} (hb : Below w.heap.size w w') : Wrote H w H w' := ⟨hb.os, hb.tape, hb.output, hb.size, fun k hk _ => hb.block k hk, fun k hk => Or.inl hk⟩
/-- A block of three numbers. -/
abbrev box3 (a b c : Int) : Obj := .cells #[.int .i64 a, .int .i64 b, .int .i64 c] 32
theorem home_took {sp a1 : Option Addr} {n n' cap cap' d : Nat} (ha : a1 = sp.map (·.add d) ∨ cap = 1 ∧ a1 = sp) {k : Nat} (hk : home p (.slice a1 n' cap') sv k) : home p (.slice sp n cap) sv k := by
  rcases hk with hk | hk | hk
  · exact .inl hk
  · refine .inr (.inl ?_)
    rcases ha with rfl | ⟨_, rfl⟩
    · exact own_some hk
    · exact own_same hk
  · exact .inr (.inr hk)
theorem home_left {sp a1 : Option Addr} {n n' cap cap' d : Nat} (ha : a1 = sp.map (·.add d) ∨ cap = 1 ∧ a1 = sp) {k : Nat} (hk : home p lv (.slice a1 n' cap') k) : home p lv (.slice sp n cap) k := by
  rcases hk with hk | hk | hk
  · exact .inl hk
  · exact .inr (.inl hk)
  · refine .inr (.inr ?_)
    rcases ha with rfl | ⟨_, rfl⟩
    · exact own_some hk
    · exact own_same hk
theorem fin_gen {W w2 w3 : World} {r : Value} {L : List Job} {lv3 sv3 : Value} {o : Nat} (h3 : IsRo w3 p lv3 sv3 J fr t c S) (hw : Wrote (home p lv sv) w (home p lv3 sv3) w3)
    (ho : w.heap.size ≤ o) (hno : ¬ home p lv3 sv3 o) (hx : Wrote (fun k => k = o) w3 (fun k => k = o) W) (hL : J ++ gj t c fr = L) : NextP r w p lv sv t L S (.returned r) W :=
  ⟨rfl, lv3, sv3, J, fr, c, ⟨hx.os.trans hw.os, hx.tape.trans hw.tape, hx.output.trans hw.output, Nat.le_trans hw.size hx.size, fun k hk hn => (hx.block k (Nat.lt_of_lt_of_le hk hw.size) (by omega)).trans (hw.block k hk hn), fun k hk => hw.home k hk⟩,
    h3.wrote hx (fun k hk e => hno (e ▸ hk)), hL⟩
theorem fin {W w2 : World} {r : Value} {L : List Job} {sp a1 : Option Addr} {cap : Nat} {j : Job} {o : Nat} (h : IsRo w2 p (.slice sp (j :: J).length cap) sv (j :: J) fr t c S) (hw : Wrote (home p lv sv) w (home p (.slice sp (j :: J).length cap) sv) w2)
    (ha : a1 = sp.map (·.add 3) ∨ cap = 1 ∧ a1 = sp) (ho : w.heap.size ≤ o) (hno : ¬ home p (.slice sp (j :: J).length cap) sv o) (hx : Wrote (fun k => k = o) (w2.setCell ⟨p, 0, none⟩ (.slice a1 J.length (cap - 1))) (fun k => k = o) W) (hL : J ++ gj t c fr = L) : NextP r w p lv sv t L S (.returned r) W := by
  obtain ⟨t1, t2⟩ := h.took ha
  exact fin_gen (w2 := w2) t1 (hw.trans t2) ho (fun e => hno (home_took ha e)) hx hL
theorem fin_st {W w2 : World} {r : Value} {L : List Job} {sp a1 : Option Addr} {cap : Nat} {g : Int} {lv2 : Value} {o : Nat} (h : IsRo w2 p lv2 (.slice sp (g :: S).length cap) J fr t c (g :: S)) (hw : Wrote (home p lv sv) w (home p lv2 (.slice sp (g :: S).length cap)) w2)
    (ha : a1 = sp.map (·.add 1) ∨ cap = 1 ∧ a1 = sp) (ho : w.heap.size ≤ o) (hno : ¬ home p lv2 (.slice sp (g :: S).length cap) o) (hx : Wrote (fun k => k = o) (w2.setCell ⟨p, 3, none⟩ (.slice a1 S.length (cap - 1))) (fun k => k = o) W) (hL : J ++ gj t c fr = L) : NextP r w p lv sv t L S (.returned r) W := by
  obtain ⟨t1, t2⟩ := h.left ha
  exact fin_gen (w2 := w2) t1 (hw.trans t2) ho (fun e => hno (home_left ha e)) hx hL
theorem fin_no {W w2 : World} {r : Value} {L : List Job} {lv2 sv2 : Value} {o : Nat} (h : IsRo w2 p lv2 sv2 J fr t c S) (hw : Wrote (home p lv sv) w (home p lv2 sv2) w2)
    (ho : w.heap.size ≤ o) (hno : ¬ home p lv2 sv2 o) (hx : Wrote (fun k => k = o) w2 (fun k => k = o) W) (hL : J ++ gj t c fr = L) : NextP r w p lv sv t L S (.returned r) W :=
  fin_gen (w2 := w2) h hw ho hno hx hL
theorem box_cells {W : World} {n : Nat} {a b c : Int} (h : W.heap[n]? = some (.cells #[.int .i64 a, .int .i64 b, .int .i64 c] 32 (0, 0))) : W.cell? ⟨n, 0, none⟩ = some (.int .i64 a) ∧ W.cell? ⟨n, 1, none⟩ = some (.int .i64 b) ∧ W.cell? ⟨n, 2, none⟩ = some (.int .i64 c) := ⟨cell_of h rfl, cell_of h rfl, cell_of h rfl⟩
theorem box_fr {W : World} {n : Nat} {a b c : Int} (h : W.heap[n]? = some (.cells #[.int .i64 a, .int .i64 b, .int .i64 c] 32 (0, 0))) : W.frozen? ⟨n, 0, none⟩ = false ∧ W.frozen? ⟨n, 1, none⟩ = false ∧ W.frozen? ⟨n, 2, none⟩ = false := ⟨frozen_of_row _ _ _ _ _ h, frozen_of_row _ _ _ _ _ h, frozen_of_row _ _ _ _ _ h⟩
theorem alloc_two {W0 : World} {n : Nat} (hn : W0.heap.size = n) (a b c : Int) (B : Obj) : ((W0.alloc (box3 a b c)).alloc B).heap[n]? = some (.cells #[.int .i64 a, .int .i64 b, .int .i64 c] 32 (0, 0)) := by
  subst hn
  have := (below_alloc (Below.refl _ (W0.alloc (box3 a b c))) B).block W0.heap.size (block_lt (heap_alloc_new _ _))
  rw [this]; exact heap_alloc_new _ _
set_option maxRecDepth 100000 in
set_option maxHeartbeats 2000000 in
/-- A job that is laid goes out. -/
theorem next_laid {j : Job} (h : IsRo w p lv sv (j :: J) fr t c S) : Calls Try.prog 19 #[.pointer (some ⟨p, 0, none⟩)] w (NextP (.tuple #[jv j, .bool true]) w p lv sv t (J ++ gj t c fr) S) := by
  have hbA : Below w.heap.size w (w.alloc (box3 0 0 0)) := below_alloc (Below.refl _ _) _
  have hbox : (w.alloc (box3 0 0 0)).heap[w.heap.size]? = some (.cells #[.int .i64 0, .int .i64 0, .int .i64 0] 32 (0, 0)) := heap_alloc_new _ _
  have hlt := fun k hk => h.lt (k := k) hk
  have h2 := h.below hbA
  obtain ⟨sp, bk, off, cap, e, hle, hmx, hcap, hcell⟩ := h2.laid.cell
  subst e
  obtain ⟨rfl, hbk, hown⟩ := hcap (by simp at hle; omega)
  obtain ⟨x0, x1, x2⟩ := j
  have j0 : (w.alloc (box3 0 0 0)).cell? ⟨bk, off, none⟩ = some (.int .i64 x0) := by simpa using (hcell 0 _ rfl).1
  have j1 := (hcell 1 _ rfl).1
  have j2 := (hcell 2 _ rfl).1
  have hbkp : bk < w.heap.size := hlt bk (Or.inr (Or.inl hown))
  clear hcell hcap
  obtain ⟨c0, c1, c2, c3, f0, f1, f3⟩ := h2.cs
  obtain ⟨d0, d1, d2, d3, g0, g1, g3⟩ := h.cs
  have hpl := block_lt h.head
  have hn : (((x0, x1, x2) :: J : List Job)).length = J.length + 1 := rfl
  have hbj := h.bj
  replace h2 := Lib.hid h2
  replace h := Lib.hid h
  rw [hn] at hbj hle c0 d0
  have hno : ¬ home p (Value.slice (some ⟨bk, off, none⟩) ((x0, x1, x2) :: J : List Job).length cap) sv w.heap.size := fun e => by have := hlt _ e; omega
  have key : Hid (∀ a1 n W0, a1 = some ⟨bk, off + 3, none⟩ ∨ cap = 1 ∧ a1 = some ⟨bk, off, none⟩ → n = J.length → w.setCell ⟨p, 0, none⟩ (.slice a1 n (cap - 1)) = W0 → W0.heap.size = w.heap.size ∧ NextP (.tuple #[jv (x0, x1, x2), .bool true]) w p (.slice (some ⟨bk, off, none⟩) (J.length + 1) cap) sv t (J ++ gj t c fr) S (.returned (.tuple #[jv (x0, x1, x2), .bool true])) ((W0.alloc (box3 x0 x1 x2)).alloc (box3 x0 x1 x2))) := Lib.hid fun a1 n W0 ha hn hW => by
    subst hn
    have hsz : W0.heap.size = w.heap.size := by rw [← hW]; simp [World.setCell]
    refine ⟨hsz, fin (a1 := a1) h.out (Wrote.refl _ _) (ha.imp (fun e => by rw [e]; simp [addr_add]) id) (Nat.le_refl _) hno ?_ rfl⟩
    rw [hW]
    exact wrote_new (below_alloc (below_alloc (Below.refl _ _) _) _)
  by_cases hc1 : cap = 1
  · have hj0 : J = [] := List.eq_nil_of_length_eq_zero (by omega)
    subst hj0
    subst hc1
    go_enter Try.func19, Try.ntmps19
    go_wp2_with fail
    generalize hW0 : w.setCell ⟨p, 0, none⟩ (.slice (some ⟨bk, off, none⟩) 0 0) = W0
    obtain ⟨hsz, hfin⟩ := key.out _ _ W0 (.inr (by simp)) rfl hW0
    obtain ⟨r0, r1, r2⟩ := box_cells (alloc_two hsz x0 x1 x2 (box3 x0 x1 x2))
    exact bodyPost_ret (v := .tuple #[jv (x0, x1, x2), .bool true]) (by simp [results, Try.results19, go_sem, r0, r1, r2]) rfl hfin
  · go_enter Try.func19, Try.ntmps19
    go_wp2_with fail
    generalize hW0 : w.setCell ⟨p, 0, none⟩ (.slice (some ⟨bk, off + 3, none⟩) J.length (cap - 1)) = W0
    obtain ⟨hsz, hfin⟩ := key.out _ _ W0 (.inl rfl) rfl hW0
    obtain ⟨r0, r1, r2⟩ := box_cells (alloc_two hsz x0 x1 x2 (box3 x0 x1 x2))
    exact bodyPost_ret (v := .tuple #[jv (x0, x1, x2), .bool true]) (by simp [results, Try.results19, go_sem, r0, r1, r2]) rfl hfin
/-- A box of three numbers is written anew. -/
theorem set3n {W : World} {o : Nat} {x y z : Int} (a b c : Int) (h : W.heap[o]? = some (.cells #[.int .i64 x, .int .i64 y, .int .i64 z] 32 (0, 0))) :
    ((((W.setCell ⟨o, 0, none⟩ (.int .i64 a)).setCell ⟨o, 1, none⟩ (.int .i64 b)).setCell ⟨o, 2, none⟩ (.int .i64 c))).heap[o]? = some (.cells #[.int .i64 a, .int .i64 b, .int .i64 c] 32 (0, 0)) ∧
    Wrote (fun k => k = o) W (fun k => k = o) (((W.setCell ⟨o, 0, none⟩ (.int .i64 a)).setCell ⟨o, 1, none⟩ (.int .i64 b)).setCell ⟨o, 2, none⟩ (.int .i64 c)) := by
  have h1 := heap_setCell_same W o 0 _ _ (.int .i64 a) h
  have h2 := heap_setCell_same _ o 1 _ _ (.int .i64 b) h1
  have h3 := heap_setCell_same _ o 2 _ _ (.int .i64 c) h2
  have a1 := wrote_setCell (H := fun k => k = o) (w := W) (a := ⟨o, 0, none⟩) (u := .int .i64 a) rfl rfl rfl rfl rfl
  generalize hW1 : W.setCell ⟨o, 0, none⟩ (.int .i64 a) = W1 at *
  have a2 := wrote_setCell (H := fun k => k = o) (w := W1) (a := ⟨o, 1, none⟩) (u := .int .i64 b) rfl rfl rfl rfl rfl
  generalize hW2 : W1.setCell ⟨o, 1, none⟩ (.int .i64 b) = W2 at *
  have a3 := wrote_setCell (H := fun k => k = o) (w := W2) (a := ⟨o, 2, none⟩) (u := .int .i64 c) rfl rfl rfl rfl rfl
  generalize hW3 : W2.setCell ⟨o, 2, none⟩ (.int .i64 c) = W3 at *
  exact ⟨h3, (a1.trans a2).trans a3⟩
theorem set3 {W : World} {o : Nat} {x y z : Int} (a b c : Int) (h : W.heap[o]? = some (.cells #[.int .i64 x, .int .i64 y, .int .i64 z] 32 (0, 0))) (B : Obj) :
    (((((W.setCell ⟨o, 0, none⟩ (.int .i64 a)).setCell ⟨o, 1, none⟩ (.int .i64 b)).setCell ⟨o, 2, none⟩ (.int .i64 c))).alloc B).heap[o]? = some (.cells #[.int .i64 a, .int .i64 b, .int .i64 c] 32 (0, 0)) ∧
    Wrote (fun k => k = o) W (fun k => k = o) ((((W.setCell ⟨o, 0, none⟩ (.int .i64 a)).setCell ⟨o, 1, none⟩ (.int .i64 b)).setCell ⟨o, 2, none⟩ (.int .i64 c)).alloc B) := by
  obtain ⟨h3, a3⟩ := set3n a b c h
  generalize ((W.setCell ⟨o, 0, none⟩ (.int .i64 a)).setCell ⟨o, 1, none⟩ (.int .i64 b)).setCell ⟨o, 2, none⟩ (.int .i64 c) = W3 at *
  have hb := below_alloc (Below.refl _ W3) B
  exact ⟨(hb.block _ (block_lt h3)).trans h3, a3.trans (wrote_new hb)⟩
set_option maxRecDepth 100000 in
set_option maxHeartbeats 2000000 in
/-- Jobs are laid ahead, and the first goes out. -/
theorem next_lay {c1 : Nat} (h : IsRo w p lv sv [] fr t (c1 + 1) S) : Calls Try.prog 19 #[.pointer (some ⟨p, 0, none⟩)] w (NextP (.tuple #[jv (-1, fr, fr + min (t - fr) 8), .bool true]) w p lv sv t (gj t c1 (fr + min (t - fr) 8)) S) := by
  have hbA : Below w.heap.size w (w.alloc (box3 0 0 0)) := below_alloc (Below.refl _ _) _
  have hbox : (w.alloc (box3 0 0 0)).heap[w.heap.size]? = some (.cells #[.int .i64 0, .int .i64 0, .int .i64 0] 32 (0, 0)) := heap_alloc_new _ _
  have hlt := fun k hk => h.lt (k := k) hk
  have h2 := h.below hbA
  obtain ⟨s1, k1, e⟩ := h2.laid.slice
  subst e
  obtain ⟨c0, c1', c2, c3, f0, f1, f3⟩ := h2.cs
  obtain ⟨d0, d1, d2, d3, g0, g1, g3⟩ := h.cs
  have hpl := block_lt h.head
  have cl := lay_any h2
  replace h2 := Lib.hid h2
  replace h := Lib.hid h
  go_enter Try.func19, Try.ntmps19
  go_wp2_with fail
  with_reducible refine Calls.mono cl ?_
  rintro e w2 ⟨rfl, lv2, J2, fr2, c2', hw2, hR, hv, hJ, hcc⟩
  obtain ⟨j, J, rfl⟩ : ∃ j J, J2 = j :: J := by
    cases J2 with
    | nil => simp at hJ; omega
    | cons j J => exact ⟨j, J, rfl⟩
  have hv2 : j = (-1, fr, fr + min (t - fr) 8) ∧ J ++ gj t c2' fr2 = gj t c1 (fr + min (t - fr) 8) := by
    have := hv
    unfold vw at this
    simp only [gj, List.cons_append, List.nil_append] at this
    exact ⟨(List.cons.inj this).1, List.append_cancel_right (List.cons.inj this).2⟩
  obtain ⟨rfl, hv3⟩ := hv2
  obtain ⟨mm, hmm⟩ : ∃ x, fr + min (t - fr) 8 = x := ⟨_, rfl⟩
  rw [hmm] at hv3 hR hv ⊢
  clear cl hv c0 c1' c2 c3 f0 f1 f3 d0 d1 d2 d3 g0 g1 g3
  have hlt2 := fun k hk => hR.lt (k := k) hk
  obtain ⟨sp, bk, off, cap, e, hle, hmx, hcap, hcell⟩ := hR.laid.cell
  subst e
  obtain ⟨rfl, hbk, hown⟩ := hcap (by simp at hle; omega)
  have hno : ¬ home p (Value.slice (some ⟨bk, off, none⟩) ((-1, fr, mm) :: J : List Job).length cap) sv w.heap.size := fun e => (hw2.home _ e).elim (fun e => by have := hlt _ e; omega) (fun e => by have := block_lt hbox; omega)
  have hno0 : ¬ home p (Value.slice s1 ([] : List Job).length k1) sv w.heap.size := fun e => by have := hlt _ e; omega
  have hbox2 := (hw2.block _ (block_lt hbox) hno0).trans hbox
  have hwA : Wrote (home p (.slice s1 0 k1) sv) w (home p (.slice s1 0 k1) sv) (w.alloc (box3 0 0 0)) := wrote_new hbA
  have hwB := hwA.trans hw2
  have j0 : w2.cell? ⟨bk, off, none⟩ = some (.int .i64 (-1)) := by simpa using (hcell 0 _ rfl).1
  have j1 := (hcell 1 _ rfl).1
  have j2 := (hcell 2 _ rfl).1
  obtain ⟨c0, c1', c2, c3, f0, f1, f3⟩ := hR.cs
  have hpl2 := block_lt hR.head
  have hn : (((-1, fr, mm) :: J : List Job)).length = J.length + 1 := rfl
  have hbj := hR.bj
  have hol := block_lt hbox2
  have hpo : p ≠ w.heap.size := by omega
  have hbko : bk ≠ w.heap.size := fun e => hno (.inr (.inl (e ▸ hown)))
  replace hR := Lib.hid hR
  rw [hn] at hbj hle c0
  clear hcell hcap hJ hcc hw2
  obtain ⟨o0, o1, o2⟩ := box_cells hbox2
  obtain ⟨z0, z1, z2⟩ := box_fr hbox2
  have hop : w.heap.size ≠ p := fun e => hpo e.symm
  have key : Hid (∀ a1 n W0, a1 = some ⟨bk, off + 3, none⟩ ∨ cap = 1 ∧ a1 = some ⟨bk, off, none⟩ → n = J.length → w2.setCell ⟨p, 0, none⟩ (.slice a1 n (cap - 1)) = W0 →
      (((((W0.setCell ⟨w.heap.size, 0, none⟩ (.int .i64 (-1))).setCell ⟨w.heap.size, 1, none⟩ (.int .i64 fr)).setCell ⟨w.heap.size, 2, none⟩ (.int .i64 mm))).alloc (box3 (-1) fr mm)).heap[w.heap.size]? = some (.cells #[.int .i64 (-1), .int .i64 fr, .int .i64 mm] 32 (0, 0)) ∧
      NextP (.tuple #[jv (-1, fr, mm), .bool true]) w p (.slice s1 0 k1) sv t (gj t c1 mm) S (.returned (.tuple #[jv (-1, fr, mm), .bool true])) ((((W0.setCell ⟨w.heap.size, 0, none⟩ (.int .i64 (-1))).setCell ⟨w.heap.size, 1, none⟩ (.int .i64 fr)).setCell ⟨w.heap.size, 2, none⟩ (.int .i64 mm)).alloc (box3 (-1) fr mm))) := Lib.hid fun a1 n W0 ha hn hW => by
    subst hn
    have hb3 : W0.heap[w.heap.size]? = some (.cells #[.int .i64 0, .int .i64 0, .int .i64 0] 32 (0, 0)) := by
      rw [← hW, (wrote_setCell (H := fun k => k = p) (w := w2) (a := ⟨p, 0, none⟩) (u := .slice a1 J.length (cap - 1)) rfl rfl rfl rfl rfl).block _ hol (fun e => hpo e.symm)]
      exact hbox2
    obtain ⟨e1, e2⟩ := set3 (-1) fr mm hb3 (box3 (-1) fr mm)
    refine ⟨e1, fin (a1 := a1) hR.out hwB (ha.imp (fun e => by rw [e]; simp [addr_add]) id) (Nat.le_refl _) hno ?_ hv3⟩
    rw [hW]
    exact e2
  by_cases hc1 : cap = 1
  · have hj0 : J = [] := List.eq_nil_of_length_eq_zero (by omega)
    subst hj0
    subst hc1
    go_wp2_with fail
    rw [hmm]
    generalize hW0 : w2.setCell ⟨p, 0, none⟩ (.slice (some ⟨bk, off, none⟩) 0 0) = W0
    obtain ⟨hb4, hfin⟩ := key.out _ _ W0 (.inr (by simp)) rfl hW0
    obtain ⟨r0, r1, r2⟩ := box_cells hb4
    exact bodyPost_ret (v := .tuple #[jv (-1, fr, mm), .bool true]) (by simp [results, Try.results19, go_sem, r0, r1, r2]) rfl hfin
  · go_wp2_with fail
    rw [hmm]
    generalize hW0 : w2.setCell ⟨p, 0, none⟩ (.slice (some ⟨bk, off + 3, none⟩) J.length (cap - 1)) = W0
    obtain ⟨hb4, hfin⟩ := key.out _ _ W0 (.inl rfl) rfl hW0
    obtain ⟨r0, r1, r2⟩ := box_cells hb4
    exact bodyPost_ret (v := .tuple #[jv (-1, fr, mm), .bool true]) (by simp [results, Try.results19, go_sem, r0, r1, r2]) rfl hfin
set_option maxRecDepth 100000 in
set_option maxHeartbeats 2000000 in
/-- A stack goes out. -/
theorem next_st {g : Int} (h : IsRo w p lv sv [] fr t 0 (g :: S)) : Calls Try.prog 19 #[.pointer (some ⟨p, 0, none⟩)] w (NextP (.tuple #[jv (g, 0, 16), .bool true]) w p lv sv t [] S) := by
  have hbA : Below w.heap.size w (w.alloc (box3 0 0 0)) := below_alloc (Below.refl _ _) _
  have hbox : (w.alloc (box3 0 0 0)).heap[w.heap.size]? = some (.cells #[.int .i64 0, .int .i64 0, .int .i64 0] 32 (0, 0)) := heap_alloc_new _ _
  have hlt := fun k hk => h.lt (k := k) hk
  have h2 := h.below hbA
  obtain ⟨s1, k1, e⟩ := h2.laid.slice
  subst e
  obtain ⟨c0, c1', c2, c3, f0, f1, f3⟩ := h2.cs
  obtain ⟨d0, d1, d2, d3, g0, g1, g3⟩ := h.cs
  have hpl := block_lt h.head
  have cl := lay_any h2
  replace h2 := Lib.hid h2
  replace h := Lib.hid h
  go_enter Try.func19, Try.ntmps19
  go_wp2_with fail
  with_reducible refine Calls.mono cl ?_
  rintro e w2 ⟨rfl, lv2, J2, fr2, c2', hw2, hR, hv, hJ, hcc⟩
  obtain rfl : J2 = [] := List.eq_nil_of_length_eq_zero (by omega)
  obtain rfl : c2' = 0 := by simpa using hcc
  clear cl hv c0 c1' c2 c3 f0 f1 f3 d0 d1 d2 d3 g0 g1 g3
  have hlt2 := fun k hk => hR.lt (k := k) hk
  obtain ⟨s2, k2, e⟩ := hR.laid.slice
  subst e
  have hno : ¬ home p (Value.slice s2 ([] : List Job).length k2) sv w.heap.size := fun e => (hw2.home _ e).elim (fun e => by have := hlt _ e; omega) (fun e => by have := block_lt hbox; omega)
  have hno0 : ¬ home p (Value.slice s1 ([] : List Job).length k1) sv w.heap.size := fun e => by have := hlt _ e; omega
  have hbox2 := (hw2.block _ (block_lt hbox) hno0).trans hbox
  have hwA : Wrote (home p (.slice s1 0 k1) sv) w (home p (.slice s1 0 k1) sv) (w.alloc (box3 0 0 0)) := wrote_new hbA
  have hwB := hwA.trans hw2
  obtain ⟨sp, bk, off, cap, e, hle, hmx, hcap, hcell⟩ := hR.st.cell
  subst e
  obtain ⟨rfl, hbk⟩ := hcap (by simp at hle; omega)
  have j0 : w2.cell? ⟨bk, off, none⟩ = some (.int .i64 g) := by simpa using hcell 0 (by simp)
  have hbko : bk ≠ w.heap.size := fun e => hno (.inr (.inr (e ▸ rfl)))
  obtain ⟨c0, c1', c2, c3, f0, f1, f3⟩ := hR.cs
  have hpl2 := block_lt hR.head
  have hn : (g :: S).length = S.length + 1 := rfl
  have hol := block_lt hbox2
  have hpo : p ≠ w.heap.size := by omega
  obtain ⟨o0, o1, o2⟩ := box_cells hbox2
  obtain ⟨z0, z1, z2⟩ := box_fr hbox2
  have hop : w.heap.size ≠ p := fun e => hpo e.symm
  replace hR := Lib.hid hR
  rw [hn] at hle c3
  rw [show ([] : List Job).length = 0 from rfl] at c0
  clear hcell hcap hJ hcc hw2
  have key : Hid (∀ a1 n W0, a1 = some ⟨bk, off + 1, none⟩ ∨ cap = 1 ∧ a1 = some ⟨bk, off, none⟩ → n = S.length → w2.setCell ⟨p, 3, none⟩ (.slice a1 n (cap - 1)) = W0 →
      (((W0.setCell ⟨w.heap.size, 0, none⟩ (.int .i64 g)).setCell ⟨w.heap.size, 1, none⟩ (.int .i64 0)).setCell ⟨w.heap.size, 2, none⟩ (.int .i64 16)).heap[w.heap.size]? = some (.cells #[.int .i64 g, .int .i64 0, .int .i64 16] 32 (0, 0)) ∧
      NextP (.tuple #[jv (g, 0, 16), .bool true]) w p (.slice s1 0 k1) (.slice (some ⟨bk, off, none⟩) (g :: S).length cap) t [] S (.returned (.tuple #[jv (g, 0, 16), .bool true])) (((W0.setCell ⟨w.heap.size, 0, none⟩ (.int .i64 g)).setCell ⟨w.heap.size, 1, none⟩ (.int .i64 0)).setCell ⟨w.heap.size, 2, none⟩ (.int .i64 16))) := Lib.hid fun a1 n W0 ha hn hW => by
    subst hn
    have hb3 : W0.heap[w.heap.size]? = some (.cells #[.int .i64 0, .int .i64 0, .int .i64 0] 32 (0, 0)) := by
      rw [← hW, (wrote_setCell (H := fun k => k = p) (w := w2) (a := ⟨p, 3, none⟩) (u := .slice a1 S.length (cap - 1)) rfl rfl rfl rfl rfl).block _ hol hop]
      exact hbox2
    obtain ⟨e1, e2⟩ := set3n g 0 16 hb3
    refine ⟨e1, fin_st (a1 := a1) hR.out hwB (ha.imp (fun e => by rw [e]; simp [addr_add]) id) (Nat.le_refl _) hno ?_ rfl⟩
    rw [hW]
    exact e2
  by_cases hc1 : cap = 1
  · have hj0 : S = [] := List.eq_nil_of_length_eq_zero (by omega)
    subst hj0
    subst hc1
    go_wp2_with fail
    generalize hW0 : w2.setCell ⟨p, 3, none⟩ (.slice (some ⟨bk, off, none⟩) 0 0) = W0
    obtain ⟨hb4, hfin⟩ := key.out _ _ W0 (.inr (by simp)) rfl hW0
    obtain ⟨r0, r1, r2⟩ := box_cells hb4
    exact bodyPost_ret (v := .tuple #[jv (g, 0, 16), .bool true]) (by simp [results, Try.results19, go_sem, r0, r1, r2]) rfl hfin
  · go_wp2_with fail
    generalize hW0 : w2.setCell ⟨p, 3, none⟩ (.slice (some ⟨bk, off + 1, none⟩) S.length (cap - 1)) = W0
    obtain ⟨hb4, hfin⟩ := key.out _ _ W0 (.inl rfl) rfl hW0
    obtain ⟨r0, r1, r2⟩ := box_cells hb4
    exact bodyPost_ret (v := .tuple #[jv (g, 0, 16), .bool true]) (by simp [results, Try.results19, go_sem, r0, r1, r2]) rfl hfin
set_option maxRecDepth 100000 in
set_option maxHeartbeats 2000000 in
/-- There is none. -/
theorem next_no (h : IsRo w p lv sv [] fr t 0 []) : Calls Try.prog 19 #[.pointer (some ⟨p, 0, none⟩)] w (NextP (.tuple #[jv (0, 0, 0), .bool false]) w p lv sv t [] []) := by
  have hbA : Below w.heap.size w (w.alloc (box3 0 0 0)) := below_alloc (Below.refl _ _) _
  have hbox : (w.alloc (box3 0 0 0)).heap[w.heap.size]? = some (.cells #[.int .i64 0, .int .i64 0, .int .i64 0] 32 (0, 0)) := heap_alloc_new _ _
  have hlt := fun k hk => h.lt (k := k) hk
  have h2 := h.below hbA
  obtain ⟨s1, k1, e⟩ := h2.laid.slice
  subst e
  obtain ⟨c0, c1', c2, c3, f0, f1, f3⟩ := h2.cs
  obtain ⟨d0, d1, d2, d3, g0, g1, g3⟩ := h.cs
  have hpl := block_lt h.head
  have cl := lay_any h2
  replace h2 := Lib.hid h2
  replace h := Lib.hid h
  go_enter Try.func19, Try.ntmps19
  go_wp2_with fail
  with_reducible refine Calls.mono cl ?_
  rintro e w2 ⟨rfl, lv2, J2, fr2, c2', hw2, hR, hv, hJ, hcc⟩
  obtain rfl : J2 = [] := List.eq_nil_of_length_eq_zero (by omega)
  obtain rfl : c2' = 0 := by simpa using hcc
  clear cl hv c0 c1' c2 c3 f0 f1 f3 d0 d1 d2 d3 g0 g1 g3
  have hlt2 := fun k hk => hR.lt (k := k) hk
  obtain ⟨s2, k2, e⟩ := hR.laid.slice
  subst e
  have hno : ¬ home p (Value.slice s2 ([] : List Job).length k2) sv w.heap.size := fun e => (hw2.home _ e).elim (fun e => by have := hlt _ e; omega) (fun e => by have := block_lt hbox; omega)
  have hno0 : ¬ home p (Value.slice s1 ([] : List Job).length k1) sv w.heap.size := fun e => by have := hlt _ e; omega
  have hbox2 := (hw2.block _ (block_lt hbox) hno0).trans hbox
  have hwA : Wrote (home p (.slice s1 0 k1) sv) w (home p (.slice s1 0 k1) sv) (w.alloc (box3 0 0 0)) := wrote_new hbA
  have hwB := hwA.trans hw2
  obtain ⟨s3, k3, e⟩ := hR.st.slice
  subst e
  obtain ⟨c0, c1', c2, c3, f0, f1, f3⟩ := hR.cs
  have hpl2 := block_lt hR.head
  have hol := block_lt hbox2
  have hpo : p ≠ w.heap.size := by omega
  obtain ⟨o0, o1, o2⟩ := box_cells hbox2
  obtain ⟨z0, z1, z2⟩ := box_fr hbox2
  have hop : w.heap.size ≠ p := fun e => hpo e.symm
  rw [show ([] : List Int).length = 0 from rfl] at c3
  rw [show ([] : List Job).length = 0 from rfl] at c0
  have e12 := set3n 0 0 0 hbox2
  obtain ⟨hb4, e2⟩ := e12
  have hfin : NextP (.tuple #[jv (0, 0, 0), .bool false]) w p (.slice s1 0 k1) (.slice s3 0 k3) t [] [] (.returned (.tuple #[jv (0, 0, 0), .bool false])) _ := fin_no hR hwB (Nat.le_refl _) hno e2 rfl
  replace hfin := Lib.hid hfin
  replace hb4 := Lib.hid hb4
  clear hJ hcc hw2 hR hwB hwA e2
  go_wp2_with fail
  obtain ⟨r0, r1, r2⟩ := box_cells hb4.out
  exact bodyPost_ret (v := .tuple #[jv (0, 0, 0), .bool false]) (by simp [results, Try.results19, go_sem, r0, r1, r2]) rfl hfin.out
/-- What Next answers of these jobs. -/
def nextV : List Job → List Int → Value
  | [], [] => .tuple #[jv (0, 0, 0), .bool false]
  | j :: _, _ => .tuple #[jv j, .bool true]
  | [], g :: _ => .tuple #[jv (g, 0, 16), .bool true]
def nextS : List Job → List Int → List Int
  | [], S => S.tail
  | _ :: _, S => S
theorem next_any (h : IsRo w p lv sv J fr t c S) : Calls Try.prog 19 #[.pointer (some ⟨p, 0, none⟩)] w (NextP (nextV (J ++ gj t c fr) S) w p lv sv t (J ++ gj t c fr).tail (nextS (J ++ gj t c fr) S)) := by
  rcases J with _ | ⟨j, J⟩
  · rcases c with _ | c
    · rcases S with _ | ⟨g, S⟩
      · exact next_no h
      · exact next_st h
    · exact next_lay h
  · exact next_laid h
end Ro
end Go.Proofs.Ytkpmifkdnndccaa
