/- The document's own barrier: a plain list of pairs that is never written again once it is made; what its calls answer and make. -/
import Derived.Test.YtejijddhmckgiaaBarMore
import Derived.Test.YtejijddhmckgiaaGRow
import Derived.Test.YtejijddhmckgiaaOut
import Derived.Test.YtejijddhmckgiaaPutNew
import Derived.RegionTactic
import Derived.StillTailTactics
import Derived.Deep.RegionLaw
import Derived.Deep.RegionHeld3
namespace Go.Proofs.Ytejijddhmckgiaa
open Go.RowKit Go.Lib Fx Ho Rw Qu Gr
set_option linter.unusedVariables false
namespace Rba
open Ba (Pairs pcells pcells_len pcells_one pcells_at addN names names_more names_len addN_len)
theorem eltP : Elt Try.prog 22 31 2 16 (.agg #[.int .i64 0, .int .i64 0]) := ⟨Try.underlying22, Ba.infoP, by rfl, by decide, by decide⟩
theorem pcells_app : ∀ (L M : Pairs), pcells (L ++ M) = pcells L ++ pcells M
  | [], M => rfl
  | q :: L, M => by show _ :: _ :: pcells (L ++ M) = _ :: _ :: (pcells L ++ pcells M); rw [pcells_app L M]
theorem pcells_get : ∀ (L : Pairs) (i : Nat), i < L.length → (pcells L)[i * 2]? = some (.int .i64 (L.getD i (0, 0)).1) ∧ (pcells L)[i * 2 + 1]? = some (.int .i64 (L.getD i (0, 0)).2)
  | [], i, h => by simp at h
  | q :: L, 0, h => ⟨rfl, rfl⟩
  | q :: L, i + 1, h => by
    have := pcells_get L i (by simpa using h)
    rw [show (i + 1) * 2 = i * 2 + 1 + 1 by omega]
    exact this
/-- A barrier of the document's at x; its row lies above N. -/
structure IsR (N : Nat) (w : World) (x : Nat) (v : Value) (L : Pairs) : Prop where
  head : w.heap[x]? = some (.cells #[v] 28 (0, 0))
  row : GRow 2 w v L.length (pcells L)
  low : Low N (fun k => v.ownBlock = some k)
variable {N : Nat} {w w' W : World} {x : Nat} {v u : Value} {L M : Pairs} {H H' : Home}
namespace IsR
theorem c0 (h : IsR N w x v L) : w.cell? ⟨x, 0, none⟩ = some v := cell_of h.head rfl
theorem fz (h : IsR N w x v L) : w.frozen? ⟨x, 0, none⟩ = false := frozen_of_row w x 0 _ _ h.head
theorem lt (h : IsR N w x v L) : x < w.heap.size := block_lt h.head
theorem wrote (h : IsR N w x v L) (ht : Wrote H w H' w') (hp : ¬ H x) (ho : ∀ k, N ≤ k → ¬ H k) : IsR N w' x v L := ⟨by rw [ht.block x h.lt hp]; exact h.head, h.row.wrote ht (fun k hk => ho k (h.low k hk)), h.low⟩
theorem below (h : IsR N w x v L) (hb : Below w.heap.size w w') : IsR N w' x v L := h.wrote (H := fun _ => False) (Wrote.of_below hb) (fun h => h) (fun _ _ h => h)
theorem slice (h : IsR N w x v L) : ∃ s c, v = .slice s L.length c := h.row.slice
theorem src (h : IsR N w x v L) (hW : Below w.heap.size w W) : Src Try.prog 2 22 v L.length (pcells L) W := by
  have hg := h.row.below hW
  have hlen := hg.len
  obtain ⟨ao, b, off, cap, rfl, hc, hm, hx⟩ := hg
  rcases hx with ⟨rfl, hb⟩ | ⟨rfl, rfl⟩
  · exact Src.ofSlice _ Try.underlying22 ⟨b, off, none⟩ L.length cap (pcells L) hlen (fun j u hj => by rw [addr_add]; exact hc.olds j u hj) (pcells_one L)
  · have h1 := hc.le
    have h2 : L = [] := List.eq_nil_of_length_eq_zero (by omega)
    subst h2
    exact Src.ofNil _ Try.underlying22 0
/-- The cells of a pair. -/
theorem pair (h : IsR N w x v L) {i : Nat} (hi : i < L.length) : ∃ b off c, v = .slice (some ⟨b, off, none⟩) L.length c ∧ w.cell? ⟨b, off + i * 2, none⟩ = some (.int .i64 (L.getD i (0, 0)).1) ∧ w.cell? ⟨b, off + (i * 2 + 1), none⟩ = some (.int .i64 (L.getD i (0, 0)).2) := by
  obtain ⟨ao, b, off, cap, rfl, h1, h2, h3, h4⟩ := h.row.cell
  obtain ⟨rfl, _, _⟩ := h3 (by omega)
  obtain ⟨g1, g2⟩ := pcells_get L i hi
  exact ⟨b, off, cap, rfl, (h4 _ _ g1).1, (h4 _ _ g2).1⟩
theorem lay (h : IsR N w x v L) (hN : x < N) {w1 : World} {v1 : Value} {L' : Pairs} (hb : Below w.heap.size w w1) (hg : GRow 2 w1 v1 L'.length (pcells L')) (hl : Low N (fun k => v1.ownBlock = some k)) : Wrote (fun k => k = x) w (fun k => k = x) (w1.setCell ⟨x, 0, none⟩ v1) ∧ IsR N (w1.setCell ⟨x, 0, none⟩ v1) x v1 L' := by
  have h1 := h.below hb
  have hw : Wrote (fun k => k = x) w1 (fun k => k = x) (w1.setCell ⟨x, 0, none⟩ v1) := wrote_setCell (a := ⟨x, 0, none⟩) (u := v1) rfl rfl rfl rfl rfl
  refine ⟨(Wrote.of_below hb).trans hw, ⟨?_, hg.wrote hw (fun k hk e => by have := hl k hk; have e : k = x := e; omega), hl⟩⟩
  rw [heap_setCell_same _ x 0 _ _ _ h1.head]; rfl
end IsR
theorem lit_row {W : World} {K : Nat} (h : K < W.heap.size) : GRow 2 W (.slice (some ⟨K, 0, none⟩) 0 0) 0 [] := ⟨some ⟨K, 0, none⟩, K, 0, 0, rfl, ⟨by decide, fun h => (by omega), fun h => (by omega), by simp, fun j u h => (by simp at h), fun j h => (by omega)⟩, ⟨by decide, fun j h => by omega⟩, .inl ⟨rfl, h⟩⟩
theorem src_at {W : World} {K : Nat} {a b : Int} (hb : W.heap[K]? = some (.cells #[.int .i64 a, .int .i64 b] 31 (0, 0))) : Src Try.prog 2 22 (.slice (some ⟨K, 0, none⟩) 1 1) 1 (pcells [(a, b)]) W := src_new (s := 2) (A := #[.int .i64 a, .int .i64 b]) Try.underlying22 rfl (by simp [Value.oneCell']) hb
/-- The call answers r; of what there was the barrier at x alone has turned. -/
def Turned (N : Nat) (r : Value) (w : World) (x : Nat) (L : Pairs) (e : Ending) (w' : World) : Prop := ∃ v', e = .returned r ∧ Wrote (fun k => k = x) w (fun k => k = x) w' ∧ IsR N w' x v' L
set_option maxRecDepth 100000 in
theorem put_full (a b : Int) (hl : 16 ≤ L.length) (h : IsR N w x v L) : Calls Try.prog 12 #[.pointer (some ⟨x, 0, none⟩), .int .i64 a, .int .i64 b] w (Turned N (.bool false) w x L) := by
  have c0 := h.c0
  have hfin : Hid (Turned N (.bool false) w x L (.returned (.bool false)) w) := Lib.hid ⟨v, rfl, Wrote.refl _ _, h⟩
  obtain ⟨s, c, rfl⟩ := h.slice
  have hl2 : (16 : Int) ≤ (L.length : Int) := by omega
  clear h
  generalize L.length = l at *
  go_enter Try.func12, Try.ntmps12
  go_wp2_with fail
  go_ret
  exact hfin.out
set_option maxRecDepth 100000 in
theorem put_zero (hl : L.length < 16) (h : IsR N w x v L) : Calls Try.prog 12 #[.pointer (some ⟨x, 0, none⟩), .int .i64 0, .int .i64 0] w (Turned N (.bool true) w x L) := by
  have c0 := h.c0
  have hfin : Hid (Turned N (.bool true) w x L (.returned (.bool true)) w) := Lib.hid ⟨v, rfl, Wrote.refl _ _, h⟩
  obtain ⟨s, c, rfl⟩ := h.slice
  have hl2 : ¬ (16 : Int) ≤ (L.length : Int) := by omega
  clear h
  generalize L.length = l at *
  go_enter Try.func12, Try.ntmps12
  go_wp2_with fail
  go_ret
  exact hfin.out
set_option maxRecDepth 100000 in
set_option maxHeartbeats 2000000 in
theorem put_room (a b : Int) (hab : ¬ (a = 0 ∧ b = 0)) (hl : L.length < 16) (h : IsR N w x v L) (hp : x < N) (hS : N ≤ w.heap.size) : Calls Try.prog 12 #[.pointer (some ⟨x, 0, none⟩), .int .i64 a, .int .i64 b] w (Turned N (.bool true) w x (L ++ [(a, b)])) := by
  have hplt := h.lt
  have c0 := h.c0
  obtain ⟨sl, cl, el⟩ := h.slice
  have hsrc : Hid (∀ W, Below w.heap.size w W → Src Try.prog 2 22 v L.length (pcells L) W) := Lib.hid fun W hb => h.src hb
  have hfin : Hid (∀ (W : World) (v1 : Value), Below w.heap.size w W → Low w.heap.size (fun k => v1.ownBlock = some k) → GRow 2 W v1 (L ++ [(a, b)]).length (pcells (L ++ [(a, b)])) → (∃ s n c, v1 = .slice s n c) ∧ W.cell? ⟨x, 0, none⟩ = some v ∧ W.frozen? ⟨x, 0, none⟩ = false ∧ Hid (Turned N (.bool true) w x (L ++ [(a, b)]) (.returned (.bool true)) (W.setCell ⟨x, 0, none⟩ v1))) := Lib.hid fun W v1 hb hlow hr => by
    obtain ⟨s, c, e⟩ := hr.slice
    have h1 := h.below hb
    obtain ⟨k1, k2⟩ := h.lay hp hb hr (fun k hk => Nat.le_trans hS (hlow k hk))
    exact ⟨⟨s, _, c, e⟩, h1.c0, h1.fz, Lib.hid ⟨_, rfl, k1, k2⟩⟩
  have hbA : 0 + L.length ≤ 1000000 := by omega
  have hbB : L.length + 1 ≤ 1000000 := by omega
  have hlt : ¬ (16 : Int) ≤ (L.length : Int) := by omega
  rw [el] at c0 hsrc hfin
  have e2 : w.heap.size < (w.alloc (.cells #[] 31)).heap.size := lt_new _ _
  have hb1 : Hid (Below w.heap.size w (w.alloc (.cells #[] 31))) := Lib.hid (below_alloc (Below.refl _ _) _)
  have hcat : Hid ([] ++ pcells L ++ pcells [(a, b)] = pcells (L ++ [(a, b)]) ∧ L.length + 1 = (L ++ [(a, b)]).length) := Lib.hid ⟨by rw [pcells_app]; rfl, by simp⟩
  clear h el hl
  by_cases ha : a = 0
  all_goals
    first
      | (have hb0 : ¬ b = 0 := fun e => hab ⟨ha, e⟩
         subst ha)
      | skip
    clear hab
    go_enter Try.func12, Try.ntmps12
    go_wp2_with (first
      | (at_builtin; refine wpList_append_g rfl (.tmp 25) (.tmp 29) rfl rfl eltP (hr7.out.below (hb78 _)) rfl rfl (src_at (heap_alloc_new _ _)) hbB ?_; intro v9 w9 hr9 hl9; rw [hcat.out.1, hcat.out.2] at hr9; have hb9 := below_of_wrote hl9 hl7.out (hs8 _); have hw9 := hl9.low hl7.out (hs8 _); have hk9 := hfin.out w9 v9 (hb7.out.trans ((hb8 _).trans hb9)) hw9 hr9; obtain ⟨⟨s9, n9, c9, rfl⟩, f1, f2, hgo⟩ := hk9; clear hr9 hl9 hb9 hw9 hfin)
      | (at_builtin; refine wpList_append_g rfl (.tmp 20) (.tmp 24) rfl rfl eltP (lit_row (by exact e2)) rfl rfl (hsrc.out _ hb1.out) hbA ?_; intro v7 w7 hr7 hl7; rw [Nat.zero_add] at hr7; obtain ⟨s7, c7, rfl⟩ := hr7.slice; have hb7 := Lib.hid (hb1.out.trans (below_of_wrote hl7 (low_some (Nat.le_refl _)) (Nat.le_of_lt e2))); replace hl7 := Lib.hid (hl7.low (low_some (Nat.le_refl _)) (Nat.le_of_lt e2)); replace hr7 := Lib.hid hr7; have hb78 := fun c : Int => below_alloc (Below.refl w7.heap.size w7) (.cells #[.int .i64 c, .int .i64 b] 31); have hb8 := fun c : Int => (hb78 c).mono hb7.out.size; have hs8 := fun c : Int => Nat.le_trans hb7.out.size (hb78 c).size; clear e2))
    go_ret
    exact hgo.out
/-- What the list tells: the names, new. -/
def Told (N : Nat) (w : World) (x : Nat) (zs : List Int) (e : Ending) (w' : World) : Prop := ∃ v', e = .returned v' ∧ OffRow w' v' zs ∧ Low w.heap.size (fun k => v'.ownBlock = some k) ∧ Wrote (fun k => k = x) w (fun k => k = x) w' ∧ IsR N w' x (.slice none 0 0) []
def part (l : List Int) (a b : Int) (k : Nat) : List Int := if k = 0 then l else if k = 1 then addN l a else addN (addN l a) b
theorem part_more (l : List Int) (a b : Int) {k : Nat} (hk : k < 2) : part l a b (k + 1) = addN (part l a b k) (if k = 0 then a else b) := by
  obtain rfl | rfl : k = 0 ∨ k = 1 := by omega
  · rfl
  · rfl
theorem part_len (l : List Int) (a b : Int) (k : Nat) : (part l a b k).length ≤ l.length + 2 := by
  unfold part
  have h1 := addN_len l a
  have h2 := addN_len (addN l a) b
  split
  · omega
  · split <;> omega
set_option maxRecDepth 100000 in
set_option maxHeartbeats 2000000 in
theorem flush_any (h : IsR N w x v L) (hl : L.length ≤ 100) (hp : x < N) (hS : N ≤ w.heap.size) : Calls Try.prog 17 #[.pointer (some ⟨x, 0, none⟩)] w (Told N w x (names L)) := by
  have hplt := h.lt
  obtain ⟨m, hm⟩ : ∃ m, L.length = m := ⟨_, rfl⟩
  obtain ⟨sl, cl, el⟩ := h.slice
  have hc0 : Hid (∀ W, Below w.heap.size w W → W.cell? ⟨x, 0, none⟩ = some (.slice sl m cl)) := Lib.hid fun W hb => by rw [(h.below hb).c0, el, hm]
  have hcell : Hid (∀ i, i < m → ∃ b off, sl = some ⟨b, off, none⟩ ∧ ∀ W, Below w.heap.size w W → W.cell? ⟨b, off + i * 2, none⟩ = some (.int .i64 (L.getD i (0, 0)).1) ∧ W.cell? ⟨b, off + (i * 2 + 1), none⟩ = some (.int .i64 (L.getD i (0, 0)).2)) := Lib.hid fun i hi => by
    obtain ⟨b, off, c, e, _, _⟩ := h.pair (i := i) (by omega)
    rw [el] at e
    cases e
    refine ⟨b, off, rfl, fun W hb => ?_⟩
    obtain ⟨b2, off2, c2, e2, k1, k2⟩ := (h.below hb).pair (i := i) (by omega)
    rw [el] at e2
    cases e2
    exact ⟨k1, k2⟩
  have hmore : Hid (∀ i, i < m → names (L.take (i + 1)) = part (names (L.take i)) (L.getD i (0, 0)).1 (L.getD i (0, 0)).2 2) := Lib.hid fun i hi => names_more L i (by omega)
  have hnl : Hid (∀ i, i ≤ m → (names (L.take i)).length ≤ 200) := Lib.hid fun i hi => by have := names_len L i (by omega); omega
  have htk : Hid (names (L.take m) = names L) := Lib.hid (by rw [← hm, List.take_length])
  have hend : Hid (∀ W, Below w.heap.size w W → ∀ v', OffRow W v' (names L) → Low w.heap.size (fun k => v'.ownBlock = some k) → W.frozen? ⟨x, 0, none⟩ = false ∧ Hid (Told N w x (names L) (.returned v') (W.setCell ⟨x, 0, none⟩ (.slice none 0 0)))) := Lib.hid fun W hb v' ho hlo => by
    obtain ⟨k1, k2⟩ := h.lay (L' := []) hp hb (grow_nil 2 _) (low_nil N)
    refine ⟨(h.below hb).fz, Lib.hid ⟨v', rfl, ?_, hlo, k1, k2⟩⟩
    exact ho.wrote (H := fun k => k = x) (wrote_setCell (a := ⟨x, 0, none⟩) (u := .slice none 0 0) rfl rfl rfl rfl rfl) (fun k hk e => by have := hlo k hk; have e : k = x := e; omega)
  have hm100 : m ≤ 100 := by omega
  clear h el hl hm hp hS
  go_enter Try.func17, Try.ntmps17
  go_wp2_with fail
  go_loopw [3, 4] (fun u y wr => ∃ (i l : Nat) (s : Option Addr) (cp : Nat), u = .slice s l cp ∧ y = .int .i64 i ∧ i ≤ m ∧ Hid (Below w.heap.size w wr) ∧ Hid (OffRow wr (.slice s l cp) (names (L.take i))) ∧ Hid (Low w.heap.size (fun k => (Value.slice s l cp).ownBlock = some k))) (fun _ y _ => (m - (RowKit.intOf y).toNat))
  case atStart => exact ⟨0, 0, none, 0, rfl, rfl, by omega, Lib.hid (Below.refl _ _), Lib.hid (offrow_nil _), Lib.hid (low_nil _)⟩
  case round =>
    obtain ⟨i, l, s, cp, rfl, rfl, i1, hB, hO, hLo⟩ := hrel
    have c0 := hc0.out _ hB.out
    by_cases hi : i < m
    · obtain ⟨b, off, rfl, hcs⟩ := hcell.out i hi
      obtain ⟨k1, k2⟩ := hcs _ hB.out
      have hmr := hmore.out i hi
      have i2 : (i : Int) < (m : Int) := by omega
      have i0 : (0 : Int) ≤ (i : Int) := by omega
      have hnb := hnl.out i i1
      replace hmr := Lib.hid hmr
      have hst : Hid (OffRow (wr.alloc (.cells #[.int .i64 (L.getD i (0, 0)).1, .int .i64 (L.getD i (0, 0)).2] 3)).drew (.slice s l cp) (part (names (L.take i)) (L.getD i (0, 0)).1 (L.getD i (0, 0)).2 0) ∧ Below w.heap.size w (wr.alloc (.cells #[.int .i64 (L.getD i (0, 0)).1, .int .i64 (L.getD i (0, 0)).2] 3)).drew ∧ (wr.alloc (.cells #[.int .i64 (L.getD i (0, 0)).1, .int .i64 (L.getD i (0, 0)).2] 3)).drew.heap[wr.heap.size]? = some (.cells #[.int .i64 (L.getD i (0, 0)).1, .int .i64 (L.getD i (0, 0)).2] 3 (0, 0))) := Lib.hid (by
        have hb2 := below_drewN (below_alloc (Below.refl wr.heap.size wr) (.cells #[.int .i64 (L.getD i (0, 0)).1, .int .i64 (L.getD i (0, 0)).2] 3)) 1
        exact ⟨off_below hO.out hb2, hB.out.trans (hb2.mono hB.out.size), heap_alloc_new wr _⟩)
      generalize hA : L.getD i (0, 0) = pr at *
      obtain ⟨a1, b1⟩ := pr
      dsimp only at k1 k2 hmr hst
      rw [← Nat.add_assoc] at k2
      generalize hl0 : names (L.take i) = l0 at *
      have hOlt : Hid (∀ k, (Value.slice s l cp).ownBlock = some k → k < wr.heap.size) := Lib.hid fun k hk => hO.out.lt hk
      clear hA hcs hl0 hO hB
      obtain ⟨Nb, hNb⟩ : ∃ Nb, wr.heap.size = Nb := ⟨_, rfl⟩
      go_wp2_with fail
      go_region
      obtain ⟨hO2, hB2, hH⟩ := hst.out
      rw [hNb] at hH
      have d0 := cell_of hH (j := 0) (x := .int .i64 a1) rfl
      have d1 := cell_of hH (j := 1) (x := .int .i64 b1) rfl
      have hNo : Hid (∀ k, (Value.slice s l cp).ownBlock = some k → k ≠ Nb) := Lib.hid fun k hk => by have := hOlt.out k hk; omega
      replace hH := Lib.hid hH
      replace hO2 := Lib.hid hO2
      replace hB2 := Lib.hid hB2
      clear hst d0 d1 k1 k2 hNb c0 hOlt
      generalize (wr.alloc (.cells #[.int .i64 a1, .int .i64 b1] 3)).drew = wq at *
      go_wp2_with fail
      go_loopw [3, 34] (fun u y wx => ∃ (k l : Nat) (s : Option Addr) (cp : Nat), u = .slice s l cp ∧ y = .int .i64 k ∧ k ≤ 2 ∧ Hid (Below w.heap.size w wx) ∧ Hid (wx.heap[Nb]? = some (.cells #[.int .i64 a1, .int .i64 b1] 3 (0, 0))) ∧ Hid (∀ k, (Value.slice s l cp).ownBlock = some k → k ≠ Nb) ∧ Hid (OffRow wx (.slice s l cp) (part l0 a1 b1 k)) ∧ Hid (Low w.heap.size (fun k => (Value.slice s l cp).ownBlock = some k))) (fun _ y _ => (2 - (RowKit.intOf y).toNat))
      case atStart => exact ⟨0, l, s, cp, rfl, rfl, by omega, hB2, hH, hNo, hO2, hLo⟩
      case round =>
        clear hO2 hB2 hLo hH hNo
        obtain ⟨k, l, s, cp, rfl, rfl, k1, hB, hH, hNo, hO, hLo⟩ := hrel
        by_cases hk : k < 2
        · obtain ⟨y, hy⟩ : ∃ y, (if k = 0 then a1 else b1) = y := ⟨_, rfl⟩
          have dk : wr.cell? ⟨Nb, k, none⟩ = some (.int .i64 y) := by
            rw [← hy]
            obtain rfl | rfl : k = 0 ∨ k = 1 := by omega
            · exact cell_of hH.out rfl
            · exact cell_of hH.out rfl
          have hstep := part_more l0 a1 b1 hk
          rw [hy] at hstep
          have hlen := part_len l0 a1 b1 k
          have hlen2 : (part l0 a1 b1 k).length ≤ 202 := by omega
          have k2 : (k : Int) < 2 := by omega
          have k0 : (0 : Int) ≤ (k : Int) := by omega
          clear hy hlen
          generalize part l0 a1 b1 k = zs at *
          have hzl : zs.length = l := by obtain ⟨_, _, e⟩ := hO.out.slice; injection e with _ e _; exact e.symm
          by_cases h0 : y = 0
          · subst h0
            have e1 : Hid (part l0 a1 b1 (k + 1) = zs) := Lib.hid (by rw [hstep]; unfold addN; rw [if_pos (Or.inl rfl)])
            clear hstep hzl hlen2
            go_wp2_with fail
            go_roundw
            case rel => exact ⟨k + 1, l, s, cp, rfl, by go_num, by omega, hB, hH, hNo, by rw [e1.out]; exact hO, hLo⟩
            case measure => simp [RowKit.intOf]; omega
          · have h1 : (y == 0) = false := by rw [beq_eq_false_iff_ne]; exact h0
            have ch := has_any y hO.out.ints
            by_cases hmem : y ∈ zs
            · have e1 : Hid (part l0 a1 b1 (k + 1) = zs) := Lib.hid (by rw [hstep]; unfold addN; rw [if_pos (Or.inr hmem)])
              rw [decide_eq_true hmem] at ch
              clear hstep hzl hlen2 hmem
              go_wp2_with fail
              with_reducible refine Calls.mono ch ?_
              rintro e w1 ⟨rfl, ew⟩
              subst ew
              clear ch
              go_wp2_with fail
              go_roundw
              case rel => exact ⟨k + 1, l, s, cp, rfl, by go_num, by omega, hB, hH, hNo, by rw [e1.out]; exact hO, hLo⟩
              case measure => simp [RowKit.intOf]; omega
            · have e1 : Hid (part l0 a1 b1 (k + 1) = zs ++ [y]) := Lib.hid (by rw [hstep]; unfold addN; rw [if_neg (fun h => h.elim h0 hmem)])
              have hR := Lib.hid (off_below hO.out (below_alloc (Below.refl _ _) (.cells #[.int .i64 y] 3)))
              have hbd : zs.length + [y].length ≤ 1000000 := by simp; omega
              rw [decide_eq_false hmem] at ch
              have hfin : Hid (∀ v3 w3, OffRow w3 v3 (zs ++ [y]) → Wrote (fun k => (Value.slice s l cp).ownBlock = some k) (wr.alloc (.cells #[.int .i64 y] 3)) (fun k => v3.ownBlock = some k) w3 → (∃ s3 c3, v3 = .slice s3 (l + 1) c3) ∧ Hid (Below w.heap.size w w3) ∧ Hid (w3.heap[Nb]? = some (.cells #[.int .i64 a1, .int .i64 b1] 3 (0, 0))) ∧ Hid (∀ k, v3.ownBlock = some k → k ≠ Nb) ∧ Hid (OffRow w3 v3 (part l0 a1 b1 (k + 1))) ∧ Hid (Low w.heap.size (fun k => v3.ownBlock = some k))) := Lib.hid fun v3 w3 g1 g2 => by
                have hb1 := below_alloc (Below.refl wr.heap.size wr) (.cells #[.int .i64 y] 3)
                have hs1 : w.heap.size ≤ (wr.alloc (.cells #[.int .i64 y] 3)).heap.size := Nat.le_trans hB.out.size hb1.size
                have hNl := block_lt hH.out
                refine ⟨?_, Lib.hid ((hB.out.trans (hb1.mono hB.out.size)).trans (below_of_wrote g2 hLo.out hs1)), Lib.hid ?_, Lib.hid fun k hk => ?_, Lib.hid (by rw [e1.out]; exact g1), Lib.hid (g2.low hLo.out hs1)⟩
                · exact off_slice g1 (by rw [List.length_append, hzl]; rfl)
                · rw [g2.block Nb (Nat.lt_of_lt_of_le hNl hb1.size) (fun e => hNo.out Nb e rfl), hb1.block Nb hNl]; exact hH.out
                · rcases g2.home k hk with h | h
                  · exact hNo.out k h
                  · have := hb1.size; omega
              have hzl2 := Lib.hid hzl
              clear hstep hzl hlen2 hmem e1 hO hB hH hNo hLo
              go_wp2_with fail
              with_reducible refine Calls.mono ch ?_
              rintro e w1 ⟨rfl, ew⟩
              subst ew
              clear ch
              go_wp2_with (at_builtin; refine wpList_append_off rfl (.tmp 46) (.tmp 48) rfl rfl hR.out rfl rfl (src_one wr y) hbd ?_; intro v3 w3 h3 h4; obtain ⟨⟨s3, c3, rfl⟩, hB, hH, hNo, hO, hLo⟩ := hfin.out v3 w3 h3 h4; clear h3 h4 hR hfin)
              go_roundw
              case rel => exact ⟨k + 1, l + 1, s3, c3, rfl, by go_num, by omega, hB, hH, hNo, hO, hLo⟩
              case measure => simp [RowKit.intOf]; omega
        · obtain rfl : k = 2 := by omega
          rw [← hmr.out] at hO
          go_wp2_with fail
          go_roundw
          case rel => exact ⟨i + 1, l, s, cp, rfl, by go_num, by omega, hB, hO, hLo⟩
          case measure => simp [RowKit.intOf]; omega
    · obtain rfl : m = i := by omega
      have i2 : ¬ (m : Int) < (m : Int) := by omega
      have hO2 : OffRow wr (.slice s l cp) (names L) := by have := hO.out; rw [htk.out] at this; exact this
      obtain ⟨f0, hgo⟩ := hend.out _ hB.out _ hO2 hLo.out
      clear hO2 hO hLo hend hcell hmore hnl htk hc0
      go_wp2_with fail
      go_ret
      exact hgo.out
end Rba
end Go.Proofs.Ytejijddhmckgiaa
