import Derived.Test.YtdhkakjiahkjnaaDoorMA6
import Derived.Test.YtdhkakjiahkjnaaDoorMA7
import Derived.Test.YtdhkakjiahkjnaaDoorMA4
/- The model: New. -/
namespace Go.Proofs.YtdhkakjiahkjnaaDoor
open Go.RowKit Go.Lib Fx Ho Gr
set_option linter.unusedVariables false
namespace Md
open Cd (Ins zi ca c4 Tk FRow IRow MayIs CntOk Gw codemay_any)
variable {B w w' wr wx V : World} {fs : List (List Ins)} {p p1 p2 p3 pg : Nat} {q q' : Pl} {M M' : Mo} {g a b c n i e K R N G lo : Nat} {v fv : Value} {hs : List Value}
/-- The model at its beginning. -/
def mo0 (G : Nat) : Mo := ⟨[fresh 0 0], [1], List.replicate G 0, [], 0, [], 0, fun _ => []⟩
/-- A model that is being made: its functions so far. -/
structure Nw (w wx : World) (p ps pt pw pg G lo : Nat) (fv : Value) (hs : List Value) (fs : List (List Ins)) : Prop where
  head : wx.heap[p]? = some (.cells #[fv, .slice none 0 0, .slice none 0 0, ptr ps, ptr pt, ptr pw, .int .i64 0, .slice (some ⟨pg, 0, none⟩) G G, .slice none 0 0] 53 (0, 0))
  st : St.IsSt wx ps (.slice none 0 0) []
  tm : Pt.Ti wx pt (.slice none 0 0) [] 0
  wt : ∃ V, Wt.IsW wx pw V (fun _ => []) ∧ ∀ k, Wt.home pw V k → k = pw
  gl : GRow 1 wx (.slice (some ⟨pg, 0, none⟩) G G) G (cells (List.replicate G 0))
  fw : Gw lo p wx fv fs hs
  dis : ps ≠ pt ∧ ps ≠ pw ∧ ps ≠ pg ∧ pt ≠ pw ∧ pt ≠ pg ∧ pw ≠ pg ∧ p ≠ ps ∧ p ≠ pt ∧ p ≠ pw ∧ p ≠ pg
  low : w.heap.size ≤ ps ∧ w.heap.size ≤ pt ∧ w.heap.size ≤ pw ∧ w.heap.size ≤ pg ∧ w.heap.size ≤ p
  hi : ps < lo ∧ pt < lo ∧ pw < lo ∧ pg < lo ∧ p < lo ∧ lo ≤ wx.heap.size
  bel : Below w.heap.size w wx
theorem w_plain (p : Nat) (k : Nat) (h : Wt.home p (fun _ => .slice none 0 0) k) : k = p := h.elim (fun e => e) (fun ⟨_, _, e⟩ => by cases e)
theorem t_plain (p : Nat) (k : Nat) (h : Pt.home2 p (.slice none 0 0) k) : k = p := h.elim (fun e => e) (fun e => by cases e)
theorem s_plain (p : Nat) (k : Nat) (h : St.home p (.slice none 0 0) k) : k = p := h.elim (fun e => e) (fun e => by cases e)
/-- What is written at the model alone, or at its functions, leaves the others. -/
theorem Nw.rest {H H' : Home} (h : Nw w wx p p1 p2 p3 pg G lo fv hs fs) (hw : Wrote H wx H' V) (hn : ∀ k, H k → k = p ∨ lo ≤ k) : St.IsSt V p1 (.slice none 0 0) [] ∧ Pt.Ti V p2 (.slice none 0 0) [] 0 ∧ (∃ X, Wt.IsW V p3 X (fun _ => []) ∧ ∀ k, Wt.home p3 X k → k = p3) ∧ GRow 1 V (.slice (some ⟨pg, 0, none⟩) G G) G (cells (List.replicate G 0)) := by
  obtain ⟨d1, d2, d3, d4, d5, d6, d7, d8, d9, d10⟩ := h.dis
  obtain ⟨l1, l2, l3, l4, l5, l6⟩ := h.hi
  obtain ⟨X, x1, x2⟩ := h.wt
  refine ⟨h.st.wrote hw (fun k hk hh => ?_), h.tm.wrote hw (fun k hk hh => ?_), ⟨X, x1.wrote hw (fun k hk hh => ?_), x2⟩, h.gl.wrote hw (fun k hk hh => ?_)⟩
  · have := s_plain _ _ hk; have := hn k hh; omega
  · have := t_plain _ _ hk; have := hn k hh; omega
  · have := x2 k hk; have := hn k hh; omega
  · have : pg = k := Option.some.inj hk
    have := hn k hh; omega
theorem Nw.below (h : Nw w wx p p1 p2 p3 pg G lo fv hs fs) (hb : Below wx.heap.size wx V) : Nw w V p p1 p2 p3 pg G lo fv hs fs := by
  obtain ⟨a1, a2, a3, a4⟩ := h.rest (H := fun _ => False) (H' := fun _ => False) (Wrote.of_below hb) (fun k h => h.elim)
  obtain ⟨l1, l2, l3, l4, l5, l6⟩ := h.hi
  exact ⟨(hb.block p (by omega)).trans h.head, a1, a2, a3, a4, h.fw.below hb, h.dis, h.low, ⟨l1, l2, l3, l4, l5, Nat.le_trans l6 hb.size⟩, h.bel.trans (hb.mono h.bel.size)⟩
/-- The parts are made, and the model behind them. -/
theorem nw_of (hb : Below w.heap.size w V) (h1 : St.IsSt V p1 (.slice none 0 0) []) (h2 : Pt.Ti V p2 (.slice none 0 0) [] 0) (h3 : ∃ X, Wt.IsW V p3 X (fun _ => []) ∧ ∀ k, Wt.home p3 X k → k = p3) (h4 : GRow 1 V (.slice (some ⟨pg, 0, none⟩) G G) G (cells (List.replicate G 0))) (hd : p1 ≠ p2 ∧ p1 ≠ p3 ∧ p1 ≠ pg ∧ p2 ≠ p3 ∧ p2 ≠ pg ∧ p3 ≠ pg) (hl : w.heap.size ≤ p1 ∧ w.heap.size ≤ p2 ∧ w.heap.size ≤ p3 ∧ w.heap.size ≤ pg) : Nw w (V.alloc (.cells #[.slice none 0 0, .slice none 0 0, .slice none 0 0, ptr p1, ptr p2, ptr p3, .int .i64 0, .slice (some ⟨pg, 0, none⟩) G G, .slice none 0 0] 53)) V.heap.size p1 p2 p3 pg G (V.heap.size + 1) (.slice none 0 0) [] [] := by
  have hbx := below_alloc (Below.refl V.heap.size V) (.cells #[.slice none 0 0, .slice none 0 0, .slice none 0 0, ptr p1, ptr p2, ptr p3, .int .i64 0, .slice (some ⟨pg, 0, none⟩) G G, .slice none 0 0] 53)
  have s1 : (V.alloc (.cells #[.slice none 0 0, .slice none 0 0, .slice none 0 0, ptr p1, ptr p2, ptr p3, .int .i64 0, .slice (some ⟨pg, 0, none⟩) G G, .slice none 0 0] 53)).heap.size = V.heap.size + 1 := by show (V.heap.push _).size = _; rw [Array.size_push]
  have e1 := h1.lt p1 (.inl rfl)
  have e2 : p2 < V.heap.size := h2.tm.pile.lt
  obtain ⟨X, x1, x2⟩ := h3
  have e3 := x1.plt
  have e4 : pg < V.heap.size := h4.lt rfl
  have := hb.size
  refine ⟨heap_alloc_new _ _, h1.below hbx, h2.below hbx, ⟨X, x1.below hbx, x2⟩, h4.below hbx, ⟨rfl, grow_nil _ _, fun i hi => (by simp at hi), fun i hi => (by simp at hi), fun k hk => (by cases hk)⟩, ⟨hd.1, hd.2.1, hd.2.2.1, hd.2.2.2.1, hd.2.2.2.2.1, hd.2.2.2.2.2, ?_⟩, ⟨hl.1, hl.2.1, hl.2.2.1, hl.2.2.2, by omega⟩, ?_, below_alloc hb _⟩
  · refine ⟨?_, ?_, ?_, ?_⟩ <;> omega
  · rw [s1]
    refine ⟨?_, ?_, ?_, ?_, ?_, ?_⟩ <;> omega
/-- One function more. -/
theorem Nw.more {w8 V6 : World} {lv v8 : Value} {l : List Ins} (h : Nw w wr p p1 p2 p3 pg G lo fv hs fs) (hb : Below wr.heap.size wr V6) (hl : GRow 4 V6 lv l.length (ca l)) (hlv : ∀ k, lv.ownBlock = some k → wr.heap.size ≤ k) (g1 : GRow 1 w8 v8 (fs.length + 1) (hs ++ [lv])) (g2 : Wrote (fun k => fv.ownBlock = some k) V6 (fun k => v8.ownBlock = some k) w8) : w8.cell? ⟨p, 0, none⟩ = some fv ∧ w8.frozen? ⟨p, 0, none⟩ = false ∧ Hid (Nw w (w8.setCell ⟨p, 0, none⟩ v8) p p1 p2 p3 pg G lo v8 (hs ++ [lv]) (fs ++ [l])) := by
  have h6 := h.below hb
  obtain ⟨l1, l2, l3, l4, l5, l6⟩ := h.hi
  have hsz := hb.size
  have hp6 := block_lt h6.head
  have hfp : fv.ownBlock ≠ some p := fun e => (h.fw.fvs p e).1 rfl
  have hp8 : w8.heap[p]? = _ := (g2.block p hp6 hfp).trans h6.head
  have hvp : v8.ownBlock ≠ some p := fun e => (g2.home p e).elim hfp (fun e2 => by omega)
  have w2 : Wrote (fun k => k = p) w8 (fun k => k = p) (w8.setCell ⟨p, 0, none⟩ v8) := wrote_setCell (a := ⟨p, 0, none⟩) rfl rfl rfl rfl rfl
  have hw : Wrote (fun k => k = p ∨ fv.ownBlock = some k) V6 (fun k => k = p ∨ v8.ownBlock = some k) (w8.setCell ⟨p, 0, none⟩ v8) :=
    ⟨w2.os.trans g2.os, w2.tape.trans g2.tape, w2.output.trans g2.output, Nat.le_trans g2.size w2.size, fun k hk hn => (w2.block k (Nat.lt_of_lt_of_le hk g2.size) (fun e => hn (.inl e))).trans (g2.block k hk (fun e => hn (.inr e))), fun k hk => hk.elim (fun e => .inl (.inl e)) (fun e => (g2.home k e).imp .inr (fun e => e))⟩
  obtain ⟨a1, a2, a3, a4⟩ := h6.rest hw (fun k hk => hk.imp (fun e => e) (fun e => (h.fw.fvs k e).2))
  have hgw : Gw lo p w8 v8 (fs ++ [l]) (hs ++ [lv]) := h6.fw.more hl (fun k hk => by
    have := hlv k hk
    refine ⟨by omega, by omega, fun e => ?_⟩
    have := h.fw.row.lt e
    omega) (by omega) hp6 g1 g2
  have hlow := h.low
  refine ⟨cell_of hp8 rfl, frozen_of_row _ _ _ _ _ hp8, Lib.hid ⟨by rw [heap_setCell_same _ p 0 _ _ v8 hp8]; rfl, a1, a2, a3, a4, hgw.wrote w2 (fun k hk => .inl hk), h.dis, h.low, ⟨l1, l2, l3, l4, l5, by have := hw.size; omega⟩, h6.bel.trans (Cd.below_of_w hw (fun k hk => ?_) h6.bel.size)⟩⟩
  rcases hk with rfl | e
  · exact hlow.2.2.2.2
  · have := (h.fw.fvs k e).2
    have := hlow.2.2.2.2
    omega
/-- The base may lie further back. -/
theorem IsM.base {B0 : World} (h : IsM B w fs p q M) (hb : Below B0.heap.size B0 B) : IsM B0 w fs p q M :=
  ⟨h.p0, h.p1, h.p2, h.p3, h.p4, h.p5, h.p6, h.p7, ⟨h.ap.off, fun i k hi hk => ⟨Nat.le_trans hb.size (h.ap.low i k hi hk).1, (h.ap.low i k hi hk).2⟩⟩, hb.trans (h.bel.mono hb.size)⟩
/-- What is done by Op is laid down: the model is whole, but for goroutines. -/
theorem Nw.done {wd : World} (h : Nw w wr p p1 p2 p3 pg G lo fv hs fs) (hb : Below wr.heap.size wr wd) (hd : wd.heap[wr.heap.size]? = some (.cells (doCells p) 61 (0, 0))) : wd.cell? ⟨p, 1, none⟩ = some (.slice none 0 0) ∧ wd.frozen? ⟨p, 1, none⟩ = false ∧ Hid (∃ q, IsM w (wd.setCell ⟨p, 1, none⟩ (.slice (some ⟨wr.heap.size, 0, none⟩) 18 18)) fs p q ⟨[], [], List.replicate G 0, [], 0, [], 0, fun _ => []⟩) := by
  have h6 := h.below hb
  obtain ⟨l1, l2, l3, l4, l5, l6⟩ := h.hi
  obtain ⟨m1, m2, m3, m4, m5⟩ := h.low
  obtain ⟨d1, d2, d3, d4, d5, d6, d7, d8, d9, d10⟩ := h.dis
  have hsz := hb.size
  have hp6 := block_lt h6.head
  have hdb := block_lt hd
  have hw : Wrote (fun k => k = p) wd (fun k => k = p) (wd.setCell ⟨p, 1, none⟩ (.slice (some ⟨wr.heap.size, 0, none⟩) 18 18)) := wrote_setCell (a := ⟨p, 1, none⟩) rfl rfl rfl rfl rfl
  obtain ⟨a1, a2, ⟨X, x1, x2⟩, a4⟩ := h6.rest hw (fun k hk => .inl hk)
  have hgw := h6.fw.wrote hw (fun k hk => .inl hk)
  have hws := hw.size
  refine ⟨cell_of h6.head rfl, frozen_of_row _ _ _ _ _ h6.head, Lib.hid ⟨⟨fv, .slice (some ⟨wr.heap.size, 0, none⟩) 18 18, .slice none 0 0, .slice none 0 0, .slice none 0 0, .slice (some ⟨pg, 0, none⟩) G G, .slice none 0 0, p1, p2, p3, X, [], hs, [], []⟩, ?_⟩⟩
  refine ⟨?_, a1, ⟨a2, List.Perm.refl _⟩, x1, ⟨rfl, grow_nil _ _, fun i hi => (by simp at hi), List.nodup_nil, fun k hk => (by cases hk)⟩, ⟨rfl, grow_nil _ _, fun i hi => (by simp at hi), fun i j k hi => (by simp at hi), fun i k hi => (by simp at hi)⟩, ?_, ⟨hgw.len, hgw.row, hgw.ins, _, rfl, (hw.block _ hdb (fun e => by have e : wr.heap.size = p := e; omega)).trans hd⟩, ⟨fun i j k hi hj h1 h2 => ?_, fun i k hi h1 => ?_⟩, h6.bel.trans (Cd.below_of_w hw (fun k hk => by have hk : k = p := hk; omega) h6.bel.size)⟩
  · show (wd.setCell ⟨p, 1, none⟩ _).heap[p]? = _
    rw [heap_setCell_same _ p 1 _ _ _ h6.head]; rfl
  · show GRow 1 _ _ (List.replicate G (0 : Int)).length _
    rw [List.length_replicate]; exact a4
  all_goals
    have key : ∀ i k, i < 8 → hm p ⟨fv, .slice (some ⟨wr.heap.size, 0, none⟩) 18 18, .slice none 0 0, .slice none 0 0, .slice none 0 0, .slice (some ⟨pg, 0, none⟩) G G, .slice none 0 0, p1, p2, p3, X, [], hs, [], []⟩ i k → (i = 0 ∧ k = p) ∨ (i = 1 ∧ k = p1) ∨ (i = 2 ∧ k = p2) ∨ (i = 3 ∧ k = p3) ∨ (i = 6 ∧ k = pg) ∨ (i = 7 ∧ lo ≤ k ∧ k < wd.heap.size) := fun i k hi hk => by
      rcases (show i = 0 ∨ i = 1 ∨ i = 2 ∨ i = 3 ∨ i = 4 ∨ i = 5 ∨ i = 6 ∨ i = 7 by omega) with rfl | rfl | rfl | rfl | rfl | rfl | rfl | rfl
      · exact .inl ⟨rfl, hk⟩
      · exact .inr (.inl ⟨rfl, s_plain _ _ hk⟩)
      · exact .inr (.inr (.inl ⟨rfl, t_plain _ _ hk⟩))
      · exact .inr (.inr (.inr (.inl ⟨rfl, x2 k hk⟩)))
      · rcases hk with e | e <;> cases e
      · rcases hk with e | ⟨j, hj, _⟩
        · cases e
        · simp at hj
      · have e : pg = k := Option.some.inj hk
        exact .inr (.inr (.inr (.inr (.inl ⟨rfl, e.symm⟩))))
      · refine .inr (.inr (.inr (.inr (.inr ⟨rfl, ?_⟩))))
        rcases hk with e | e | ⟨j, hj, e⟩
        · exact ⟨(h.fw.fvs k e).2, h6.fw.row.lt e⟩
        · have e : wr.heap.size = k := Option.some.inj e
          omega
        · have hj : j < hs.length := hj
          have hj2 : j < fs.length := by have := h.fw.len; omega
          exact ⟨(h.fw.sep j hj2 k e).2.1, (h6.fw.ins j hj2).lt e⟩
  · have := key i k hi h1
    have := key j k hj h2
    omega
  · have := key i k hi h1
    omega
theorem eltF : Elt Tryd.prog 38 24 1 24 (.slice none 0 0) := ⟨Tryd.underlying38, by kernel_rfl, rfl, by decide, by decide⟩
theorem step_call1 {P : Program} {ops : Array Oper} {o : Oper} {a : Act} {w : World} {K : Act → World → Prop} {Q : Exit → Act → World → Prop} {E : Prop} {post : Ending → World → Prop} (hgd : o.guard = none) (f : Nat) (x1 : Operand) {ts : Array TypeId} (ho : o.op = .call { callee := .value (.func f), args := #[x1], argTypes := ts }) (v1 : Value) (ha1 : a.eval x1 = v1) (hcf : (callFunc f #[v1]).run P w = .ok (.enter f #[v1]) w)
    (hc : Calls P f #[v1] w post) (hK : ∀ e w', post e w' → ∃ v, e = .returned v ∧ K (a.put o.dst v) w') : if Region.wanted o (yielded ops a.tmps) = true then Oper.wp P o a w K Q else E :=
  step_call hgd f #[x1] ho #[v1] (by simp [ha1]) hcf hc hK
theorem s_alloc (u : World) (o : Obj) : (u.alloc o).heap.size = u.heap.size + 1 := by show (u.heap.push _).size = _; rw [Array.size_push]
theorem s_drew (u : World) : u.drew.heap.size = u.heap.size := rfl
theorem nw_of2 {CC : Array Value} (hC : (cells (List.replicate G 0)).toArray = CC) (hG : G ≤ 1000) (hb : Below w.heap.size w V) (hp : p = V.heap.size) (h1 : ∃ x, x = p1 ∧ St.IsSt V x (.slice none 0 0) []) (h2 : ∃ x, x = p2 ∧ Pt.Ti V x (.slice none 0 0) [] 0) (h3 : ∃ x, x = p3 ∧ ∃ X, Wt.IsW V x X (fun _ => []) ∧ (Wt.home x fun _ => Value.slice none 0 0) = Wt.home x X) (h4 : ∃ X : World, X.heap.size = pg ∧ Below (X.alloc (.cells CC 3)).heap.size (X.alloc (.cells CC 3)) V) (hd : p1 ≠ p2 ∧ p1 ≠ p3 ∧ p1 ≠ pg ∧ p2 ≠ p3 ∧ p2 ≠ pg ∧ p3 ≠ pg) (hl : w.heap.size ≤ p1 ∧ w.heap.size ≤ p2 ∧ w.heap.size ≤ p3 ∧ w.heap.size ≤ pg) : Nw w (V.alloc (.cells #[.slice none 0 0, .slice none 0 0, .slice none 0 0, .pointer (some ⟨p1, 0, none⟩), .pointer (some ⟨p2, 0, none⟩), .pointer (some ⟨p3, 0, none⟩), .int .i64 0, .slice (some ⟨pg, 0, none⟩) G G, .slice none 0 0] 53)) p p1 p2 p3 pg G (p + 1) (.slice none 0 0) [] [] := by
  obtain ⟨x, rfl, h1⟩ := h1
  obtain ⟨x2, rfl, h2⟩ := h2
  obtain ⟨x3, rfl, Xv, h3, h3e⟩ := h3
  obtain ⟨X, rfl, h4⟩ := h4
  subst hp
  refine nw_of hb h1 h2 ⟨Xv, h3, fun k hk => w_plain _ _ (by rw [h3e]; exact hk)⟩ ?_ hd hl
  have hx := (h4.block X.heap.size (by rw [s_alloc]; omega)).trans (heap_alloc_new X (.cells CC 3))
  have := grow_ints (W := V) (K := X.heap.size) (zs := List.replicate G 0) (e := 3) (by rw [hC]; exact hx) (by rw [List.length_replicate]; omega)
  rw [List.length_replicate] at this
  exact this
def NewR (w : World) (g : Int) (fs : List (List Ins)) (en : Ending) (w' : World) : Prop := (∃ r, MayIs g fs r ∧ r ≠ 0 ∧ en = .returned (.tuple #[.pointer none, .int .i64 1]) ∧ Below w.heap.size w w') ∨ (∃ (G p : Nat) (q : Pl), g = (G : Int) ∧ MayIs g fs 0 ∧ en = .returned (.tuple #[.pointer (some ⟨p, 0, none⟩), .int .i64 0]) ∧ IsM w w' fs p q (mo0 G))
set_option maxRecDepth 100000 in
set_option maxHeartbeats 4000000 in
theorem new_any (hT : Tk w) (hF : FRow w v fs) (g : Int) : Calls Tryd.prog 11 #[.agg #[.int .i64 g, v]] w (NewR w g fs) := by
  obtain ⟨sp, cap, rfl, hat⟩ := hF.at_
  have hbU := below_alloc (Below.refl w.heap.size w) (.cells #[.int .i64 g, .slice sp fs.length cap] 42)
  have kU := heap_alloc_new w (.cells #[.int .i64 g, .slice sp fs.length cap] 42)
  obtain ⟨U, hU⟩ : ∃ U, w.alloc (.cells #[.int .i64 g, .slice sp fs.length cap] 42) = U := ⟨_, rfl⟩
  rw [hU] at hbU kU
  obtain ⟨N, hN⟩ : ∃ N, w.heap.size = N := ⟨_, rfl⟩
  rw [hN] at kU
  have c0 := cell_of kU (j := 0) rfl
  have c1 := cell_of kU (j := 1) rfl
  have cm := codemay_any (hT.below hbU) (hF.below hbU) g
  have hat2 : Hid (∀ i, i < fs.length → ∃ b off, sp = some ⟨b, off, none⟩ ∧ ∀ wr, Below w.heap.size w wr → ∃ sv cp, wr.cell? ⟨b, off + i, none⟩ = some (.slice sv (fs.getD i []).length cp) ∧ IRow wr (.slice sv (fs.getD i []).length cp) (fs.getD i [])) := Lib.hid fun i hi => by
    obtain ⟨b, off, _, _, e, _, _⟩ := hat w (Below.refl _ _) i hi
    refine ⟨b, off, e, fun wr hb => ?_⟩
    obtain ⟨b2, off2, sv, cp, e2, h1, h2⟩ := hat wr hb i hi
    rw [e] at e2
    cases e2
    exact ⟨sv, cp, h1, h2⟩
  obtain ⟨m, hm⟩ : ∃ m, fs.length = m := ⟨_, rfl⟩
  rw [hm] at cm c1 hat2 hU
  replace hm := Lib.hid hm
  replace hN := Lib.hid hN
  replace hbU := Lib.hid hbU
  clear kU hat hT hF
  rw [hm.out]
  go_enter Tryd.func11, Tryd.ntmps11
  go_upto_region 1 with fail
  try rw [hU]
  clear hU
  try rw [hN.out]
  go_wp2_with fail
  with_reducible refine Calls.mono cm ?_
  rintro e w1 ⟨r, rfl, hr, hb1⟩
  clear cm
  have hb1w := Lib.hid (hbU.out.trans (hb1.mono hbU.out.size))
  have d0 := cell_then hb1 c0
  have d1 := cell_then hb1 c1
  clear c0 c1 hb1
  by_cases hr0 : r = 0
  · subst hr0
    obtain ⟨G, rfl⟩ : ∃ G : Nat, g = (G : Int) := by
      rcases hr with ⟨_, e⟩ | ⟨h1, _⟩ | ⟨_, i, j, _, _, _, _, _, e⟩
      · exact absurd e (by decide)
      · exact ⟨g.toNat, by have := h1.2.2.1; omega⟩
      · omega
    have hP := Lib.hid (pg_of hr)
    have hG32 := hP.out.gl
    replace hr := Lib.hid hr
    have hmk : ∀ W : World, (Instr.makeSlice 23 (.int .i64 (G : Int)) (.int .i64 (G : Int))).run Tryd.prog W = .ok (.slice (some ⟨W.heap.size, 0, none⟩) G G) (W.alloc (.cells (cells (List.replicate G 0)).toArray 3)) := fun W => by
      have := run_make_row' (P := Tryd.prog) 23 3 (.int .i64 0) 8 Tryd.underlying23 (by kernel_rfl) rfl .i64 .i64 G (by omega) (by omega) W
      rw [made_ints] at this
      exact this
    obtain ⟨CC, hCC⟩ : ∃ CC, (cells (List.replicate G 0)).toArray = CC := ⟨_, rfl⟩
    rw [hCC] at hmk
    replace hCC := Lib.hid hCC
    go_upto_region 3 with fail
    go_cut [4] from 10 to 17 (fun u4 wx => ∃ p, u4 = .pointer (some ⟨p, 0, none⟩) ∧ Hid (∃ p1 p2 p3 pg, Nw w1 wx p p1 p2 p3 pg G (p + 1) (.slice none 0 0) [] []))
    case first =>
      go_region_law (first | (refine step_call rfl 22 #[] rfl #[] (by simp) ?_ (St.new_any _) ?_; rfl; rintro e wa ⟨rfl, ha1, ha2⟩; have d0a : wa.cell? ⟨N, 0, none⟩ = some (.int .i64 (G : Int)) := cell_then (w := w1) (by repeat (first | assumption | exact Below.refl _ _ | refine below_drewN ?_ _ | refine Below.drew ?_ | refine below_alloc ?_ _ | refine below_then ?_ (by assumption))) d0; refine ⟨_, rfl, ?_⟩) | (refine step_call rfl 23 #[] rfl #[] (by simp) ?_ (Pt.new_any _) ?_; rfl; rintro e wb ⟨rfl, hb1, hb2⟩; have d0b : wb.cell? ⟨N, 0, none⟩ = some (.int .i64 (G : Int)) := cell_then (w := w1) (by repeat (first | assumption | exact Below.refl _ _ | refine below_drewN ?_ _ | refine Below.drew ?_ | refine below_alloc ?_ _ | refine below_then ?_ (by assumption))) d0; refine ⟨_, rfl, ?_⟩) | (refine step_call rfl 24 #[] rfl #[] (by simp) ?_ (Wt.new_any _) ?_; rfl; rintro e wc ⟨rfl, Vz, hc1, -, hc2, hc3⟩; have d0c : wc.cell? ⟨N, 0, none⟩ = some (.int .i64 (G : Int)) := cell_then (w := w1) (by repeat (first | assumption | exact Below.refl _ _ | refine below_drewN ?_ _ | refine Below.drew ?_ | refine below_alloc ?_ _ | refine below_then ?_ (by assumption))) d0; refine ⟨_, rfl, ?_⟩))
      all_goals
        go_wp2_with fail
        go_meet
        have z1 := ha1.size
        have z2 := hb2.size
        have z3 := hc2.size
        have z4 := ha2.lt _ (.inl rfl)
        have z5 := hb1.tm.pile.lt
        have z6 := hc1.plt
        try simp only [s_drew] at z1
        try simp only [s_alloc] at z1
        try simp only [s_alloc] at z2
        try simp only [s_alloc] at z3
        try simp only [s_drew] at z4
        try simp only [s_alloc] at z4
        try simp only [s_alloc] at z5
        try simp only [s_alloc] at z6
        refine ⟨_, rfl, Lib.hid ?_⟩
        first | refine ⟨_, _, _, _, nw_of2 hCC.out (by omega) (by repeat (first | assumption | exact Below.refl _ _ | refine below_drewN ?_ _ | refine Below.drew ?_ | refine below_alloc ?_ _ | refine below_then ?_ (by assumption))) ?_ ⟨_, ?_, ha2.below (by repeat (first | assumption | exact Below.refl _ _ | refine below_drewN ?_ _ | refine Below.drew ?_ | refine below_alloc ?_ _ | refine below_then ?_ (by assumption)))⟩ ⟨_, ?_, hb1.below (by repeat (first | assumption | exact Below.refl _ _ | refine below_drewN ?_ _ | refine Below.drew ?_ | refine below_alloc ?_ _ | refine below_then ?_ (by assumption)))⟩ ⟨_, ?_, _, hc1.below (by repeat (first | assumption | exact Below.refl _ _ | refine below_drewN ?_ _ | refine Below.drew ?_ | refine below_alloc ?_ _ | refine below_then ?_ (by assumption))), hc3⟩ ?_ ?_ ?_⟩ | refine ⟨_, _, _, _, Nw.below (nw_of2 hCC.out (by omega) (by repeat (first | assumption | exact Below.refl _ _ | refine below_drewN ?_ _ | refine Below.drew ?_ | refine below_alloc ?_ _ | refine below_then ?_ (by assumption))) ?_ ⟨_, ?_, ha2.below (by repeat (first | assumption | exact Below.refl _ _ | refine below_drewN ?_ _ | refine Below.drew ?_ | refine below_alloc ?_ _ | refine below_then ?_ (by assumption)))⟩ ⟨_, ?_, hb1.below (by repeat (first | assumption | exact Below.refl _ _ | refine below_drewN ?_ _ | refine Below.drew ?_ | refine below_alloc ?_ _ | refine below_then ?_ (by assumption)))⟩ ⟨_, ?_, _, hc1.below (by repeat (first | assumption | exact Below.refl _ _ | refine below_drewN ?_ _ | refine Below.drew ?_ | refine below_alloc ?_ _ | refine below_then ?_ (by assumption))), hc3⟩ ?_ ?_ ?_) (Below.refl _ _).drew⟩
        · first | rfl | exact (s_alloc _ _).symm
        · first | rfl | exact s_alloc _ _
        · first | rfl | exact s_alloc _ _
        · first | rfl | exact s_alloc _ _
        · first | exact ⟨wc, rfl, (by repeat (first | assumption | exact Below.refl _ _ | refine below_drewN ?_ _ | refine Below.drew ?_ | refine below_alloc ?_ _ | refine below_then ?_ (by assumption)))⟩ | exact ⟨wb, rfl, (by repeat (first | assumption | exact Below.refl _ _ | refine below_drewN ?_ _ | refine Below.drew ?_ | refine below_alloc ?_ _ | refine below_then ?_ (by assumption)))⟩ | exact ⟨wa, rfl, (by repeat (first | assumption | exact Below.refl _ _ | refine below_drewN ?_ _ | refine Below.drew ?_ | refine below_alloc ?_ _ | refine below_then ?_ (by assumption)))⟩ | exact ⟨w1.drew, rfl, (by repeat (first | assumption | exact Below.refl _ _ | refine below_drewN ?_ _ | refine Below.drew ?_ | refine below_alloc ?_ _ | refine below_then ?_ (by assumption)))⟩ | exact ⟨w1, rfl, (by repeat (first | assumption | exact Below.refl _ _ | refine below_drewN ?_ _ | refine Below.drew ?_ | refine below_alloc ?_ _ | refine below_then ?_ (by assumption)))⟩
        · refine ⟨?_, ?_, ?_, ?_, ?_, ?_⟩ <;> omega
        · refine ⟨?_, ?_, ?_, ?_⟩ <;> omega
    case rest =>
      obtain ⟨p, rfl, hnw0⟩ := hcut
      obtain ⟨p1, p2, p3, pg, hnw⟩ := hnw0.out
      clear hnw0 hmk hCC
      have e1 := cell_then hnw.bel d1
      replace hnw := Lib.hid hnw
      have hP1 := hP.out.fl
      have hfn : m ≤ 16 := by have := hP.out.len; have := hm.out; omega
      clear d0 d1
      go_wp2_with fail
      obtain ⟨w2, hw2⟩ : ∃ w2, w2 = wc := ⟨_, rfl⟩
      have st0 : Hid (∃ fv hs, Nw w1 wc p p1 p2 p3 pg G (p + 1) fv hs (fs.take 0)) := Lib.hid ⟨_, _, hnw.out⟩
      clear hnw hw2 w2
      go_loopw [21] (fun u wr => ∃ i : Nat, u = .int .i64 i ∧ i ≤ m ∧ Hid (∃ fv hs, Nw w1 wr p p1 p2 p3 pg G (p + 1) fv hs (fs.take i))) (fun u _ => (m - (RowKit.intOf u).toNat))
      case atStart => exact ⟨0, rfl, by omega, st0⟩
      case round =>
        obtain ⟨i, rfl, him, hr0⟩ := hrel
        obtain ⟨fv, hs, hnw⟩ := hr0.out
        clear st0 hr0
        have hbw : Below w.heap.size w wr := hb1w.out.trans (hnw.bel.mono hb1w.out.size)
        by_cases hlt : i < m
        · have hif : i < fs.length := by rw [hm.out]; exact hlt
          obtain ⟨b, off, rfl, hat⟩ := hat2.out i hlt
          obtain ⟨sv, cp, cz, hrow⟩ := hat wr hbw
          have hl := hP1 i hif
          have c0 : wr.cell? ⟨p, 0, none⟩ = some fv := cell_of hnw.head rfl
          have htk : (fs.take i).length = i := by rw [List.length_take]; omega
          obtain ⟨sf, cf, ef⟩ := hnw.fw.row.slice
          rw [htk] at ef
          have hcl : Hid (∀ V, Below wr.heap.size wr V → Calls Tryd.prog 25 #[.slice sv (fs.getD i []).length cp] V (fun e w' => ∃ v', e = .returned v' ∧ GRow 4 w' v' (fs.getD i []).length (ca (fs.getD i [])) ∧ (∀ k, v'.ownBlock = some k → V.heap.size ≤ k) ∧ Below V.heap.size V w')) := Lib.hid fun V hV => clone_ins (hrow.below hV) (by omega) (by omega)
          have key : Hid (∀ V w5 lv w8 v8, Below wr.heap.size wr V → GRow 4 w5 lv (fs.getD i []).length (ca (fs.getD i [])) → (∀ k, lv.ownBlock = some k → V.heap.size ≤ k) → Below V.heap.size V w5 → ∀ V6, Below w5.heap.size w5 V6 → GRow 1 w8 v8 (i + 1) (hs ++ [lv]) → Wrote (fun k => (Value.slice sf i cf).ownBlock = some k) V6 (fun k => v8.ownBlock = some k) w8 → (∃ s c, v8 = .slice s (i + 1) c) ∧ w8.cell? ⟨p, 0, none⟩ = some (.slice sf i cf) ∧ w8.frozen? ⟨p, 0, none⟩ = false ∧ Hid (Hid (∃ fv hs, Nw w1 (w8.setCell ⟨p, 0, none⟩ v8) p p1 p2 p3 pg G (p + 1) fv hs (fs.take (i + 1))))) := Lib.hid fun V w5 lv w8 v8 hV k1 k2 k3 V6 k4 g1 g2 => by
            have hbb : Below wr.heap.size wr V6 := (hV.trans (k3.mono hV.size)).trans (k4.mono (Nat.le_trans hV.size k3.size))
            obtain ⟨x0, x1, x2⟩ := hnw.more hbb (k1.below k4) (fun k hk => Nat.le_trans hV.size (k2 k hk)) (by rw [htk]; exact g1) (by rw [ef]; exact g2)
            rw [ef] at x0
            refine ⟨g1.slice, x0, x1, Lib.hid (Lib.hid ⟨v8, hs ++ [lv], ?_⟩)⟩
            have e2 : fs.take (i + 1) = fs.take i ++ [fs.getD i []] := by rw [List.take_add_one, List.getElem?_eq_getElem hif, List.getD_eq_getElem?_getD, List.getElem?_eq_getElem hif]; rfl
            rw [e2]
            exact x2.out
          have hgr : Hid (∀ V, Below wr.heap.size wr V → GRow 1 V (.slice sf i cf) i hs) := Lib.hid fun V hV => by
            have := hnw.fw.row.below hV
            rw [htk, ef] at this
            exact this
          rw [ef] at c0
          have hpl : p < wr.heap.size := block_lt hnw.head
          have hbd : i + 1 ≤ 1000000 := by omega
          have i2 : (i : Int) < (m : Int) := by omega
          have i0 : (0 : Int) ≤ (i : Int) := by omega
          clear hnw hat hrow ef htk hbw hP1 hif
          generalize (fs.getD i []).length = l at *
          go_upto_region 7 with fail
          go_region_law (first | (refine step_call1 rfl 25 (.tmp 30) rfl (.slice sv l cp) ?_ ?_ (hcl.out _ (by repeat (first | assumption | exact Below.refl _ _ | refine below_drewN ?_ _ | refine Below.drew ?_ | refine below_alloc ?_ _ | refine below_then ?_ (by assumption)))) ?_; rfl; rfl; rintro e w5 ⟨lv, rfl, k1, k2, k3⟩; obtain ⟨sl, cl, elv⟩ := k1.slice; subst elv; have c0' : w5.cell? ⟨p, 0, none⟩ = some (.slice sf i cf) := cell_then (w := wr) (by repeat (first | assumption | exact Below.refl _ _ | refine below_drewN ?_ _ | refine Below.drew ?_ | refine below_alloc ?_ _ | refine below_then ?_ (by assumption))) c0; have hpl5 : p < w5.heap.size := World.block_lt_of_cell? _ _ c0'; refine ⟨_, rfl, ?_⟩) | (refine step_append_g rfl (.tmp 29) (.tmp 32) rfl rfl eltF (hgr.out _ (by repeat (first | assumption | exact Below.refl _ _ | refine below_drewN ?_ _ | refine Below.drew ?_ | refine below_alloc ?_ _ | refine below_then ?_ (by assumption)))) rfl rfl (src_new (s := 1) (A := #[.slice sl l cl]) Tryd.underlying38 rfl (by simp [Value.oneCell']) (by first | exact heap_alloc_new _ _ | exact heap_alloc_new w5 _)) hbd ?_; intro v8 w8 g1 g2; have hk := key.out _ w5 _ w8 v8 (by repeat (first | assumption | exact Below.refl _ _ | refine below_drewN ?_ _ | refine Below.drew ?_ | refine below_alloc ?_ _ | refine below_then ?_ (by assumption))) k1 k2 k3 _ (by repeat (first | assumption | exact Below.refl _ _ | refine below_drewN ?_ _ | refine Below.drew ?_ | refine below_alloc ?_ _ | refine below_then ?_ (by assumption))) g1 g2; obtain ⟨⟨s8, c8, rfl⟩, hc8, hf8, hnx⟩ := hk; clear g1 g2))
          all_goals
            clear key hcl hgr k1 k2 k3
            go_wp2_with fail
            go_roundw
            case rel => exact ⟨i + 1, by go_num, by omega, hnx.out⟩
            case measure => simp [RowKit.intOf]; omega
        · obtain rfl : i = m := by omega
          rw [List.take_of_length_le (by rw [hm.out]; exact Nat.le_refl _)] at hnw
          have ci := instructions_any p wr
          have key : Hid (∀ wd, Below wr.heap.size wr wd → wd.heap[wr.heap.size]? = some (.cells (doCells p) 61 (0, 0)) → wd.cell? ⟨p, 1, none⟩ = some (.slice none 0 0) ∧ wd.frozen? ⟨p, 1, none⟩ = false ∧ Hid (∃ q, IsM w (wd.setCell ⟨p, 1, none⟩ (.slice (some ⟨wr.heap.size, 0, none⟩) 18 18)) fs p q ⟨[], [], List.replicate G 0, [], 0, [], 0, fun _ => []⟩)) := Lib.hid fun wd hb hd => by
            obtain ⟨x0, x1, x2⟩ := hnw.done hb hd
            obtain ⟨q, x2⟩ := x2.out
            exact ⟨x0, x1, Lib.hid ⟨q, x2.base hb1w.out⟩⟩
          clear hnw hbw
          go_wp2_with fail
          with_reducible refine Calls.mono ci ?_
          rintro e wd ⟨rfl, hb, hd⟩
          obtain ⟨c1, f1, hq⟩ := key.out wd hb hd
          clear ci hb hd key
          go_upto_region 10 with fail
          obtain ⟨W9, hW9⟩ : ∃ W, wd.setCell ⟨p, 1, none⟩ (.slice (some ⟨wr.heap.size, 0, none⟩) 18 18) = W := ⟨_, rfl⟩
          rw [hW9] at hq
          try rw [hW9]
          clear hW9 c1 f1
          obtain ⟨q9, hM9⟩ := hq.out
          have cb := begin_any hM9 (by show 0 < 1024; omega) (by show 0 ≤ 2000; omega) 0 0
          clear hM9 hq
          go_wp2_with fail
          with_reducible refine Calls.mono cb ?_
          rintro e w9 ⟨rfl, q8, hT⟩
          have hfin : Hid (NewR w (G : Int) fs (.returned (.tuple #[.pointer (some ⟨p, 0, none⟩), .int .i64 0])) w9) := Lib.hid (.inr ⟨G, p, q8, rfl, hr.out, rfl, hT.is⟩)
          clear hT cb
          go_wp2_with fail
          go_ret2
          exact hfin.out
  · have hfin : Hid (NewR w g fs (.returned (.tuple #[.pointer none, .int .i64 1])) w1) := Lib.hid (.inl ⟨r, hr, hr0, rfl, hb1w.out⟩)
    have e0 : (r != 0) = true := by simp [hr0]
    have e1 : decide (r = 0) = false := decide_eq_false hr0
    have e2 : (r == 0) = false := beq_eq_false_iff_ne.2 hr0
    clear hr d0 d1
    go_wp2_with fail
    go_ret2
    exact hfin.out
end Md
end Go.Proofs.YtdhkakjiahkjnaaDoor
