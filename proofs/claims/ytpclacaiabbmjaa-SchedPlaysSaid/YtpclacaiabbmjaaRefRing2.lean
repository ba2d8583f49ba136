/- The document's own ring: what its calls answer and make. -/
import Derived.Test.YtpclacaiabbmjaaRefRing
import Derived.Test.YtpclacaiabbmjaaRingAny
import Derived.Test.YtpclacaiabbmjaaPutNew
import Derived.RegionTactic
import Derived.StillTailTactics
import Derived.Deep.RegionLaw
import Derived.Deep.RegionHeld3
import Derived.Deep.Cut
import Derived.Deep.CutBlock
import Derived.Deep.CutRange
import Derived.Deep.DeepCutAuto
import Derived.LaidEqlPtr
namespace Go.Proofs.Ytpclacaiabbmjaa
open Go.RowKit Go.Lib Fx Ho Ri Rw Qu
set_option linter.unusedVariables false
namespace Rr
variable {S : Home} {w w' : World} {p q : Nat} {nv lv mv kv : Value} {nx ny : Option Int} {L M : List Int} {H H' : Home}
theorem ints_slice {v : Value} {zs : List Int} (h : Ints w S v zs) : ∃ s c, v = .slice s zs.length c := by obtain ⟨s, c, e, _⟩ := h; exact ⟨s, c, e⟩
theorem ints_made {v : Value} {zs : List Int} (h : OffRow w' v zs) (hl : Low w.heap.size (fun k => v.ownBlock = some k)) (hS : ∀ k, w.heap.size ≤ k → S k) : Ints w' S v zs := h.ints.wider (fun k hk _ => hS k (hl k hk))
theorem ints_lit1 (w : World) (x : Int) (hS : S w.heap.size) : Ints (w.alloc (.cells #[.int .i64 x] 3)) S (.slice (some ⟨w.heap.size, 0, none⟩) 1 1) [x] :=
  ⟨_, 1, rfl, by simp, fun i hi => ⟨w.heap.size, 0, rfl, hS, lt_new _ _, by
    obtain rfl : i = 0 := by simpa using hi
    exact cell_of (heap_alloc_new _ _) rfl⟩⟩
/-- What is left of a row that is only read, once the first ones are gone. -/
theorem ints_drop {sp a1 : Option Addr} {zs : List Int} {l n cap : Nat} (h : Ints w S (.slice sp l cap) zs) (hl : zs.length = l) (hn : n ≤ l) (ha : a1 = sp.map (·.add n) ∨ cap = n ∧ a1 = sp) (hc : l ≤ cap) : Ints w S (.slice a1 (l - n) (cap - n)) (zs.drop n) := by
  obtain ⟨sp', cap', e, hm, hcell⟩ := h
  rw [hl] at e
  cases e
  refine ⟨a1, _, by rw [List.length_drop, hl], by rw [List.length_drop]; omega, fun i hi => ?_⟩
  rw [List.length_drop] at hi
  obtain ⟨b, off, e2, h1, h2, h3⟩ := hcell (n + i) (by omega)
  rcases ha with rfl | ⟨e3, rfl⟩
  · exact ⟨b, off + n, by rw [e2]; simp [addr_add], h1, h2, by rw [Nat.add_assoc, h3, gd_drop]⟩
  · omega
theorem ints_take {sp : Option Addr} {zs : List Int} {l n cap : Nat} (h : Ints w S (.slice sp l cap) zs) (hl : zs.length = l) (hn : n ≤ l) : Ints w S (.slice sp n cap) (zs.take n) := by
  obtain ⟨sp', cap', e, hm, hcell⟩ := h
  rw [hl] at e
  cases e
  have hlen : (zs.take n).length = n := by rw [List.length_take]; omega
  refine ⟨sp, _, by rw [hlen], by rw [hlen]; omega, fun i hi => ?_⟩
  rw [hlen] at hi
  obtain ⟨b, off, e2, h1, h2, h3⟩ := hcell i (by omega)
  exact ⟨b, off, e2, h1, h2, by rw [h3, gd_take hi]⟩
theorem off_cap {v : Value} {zs : List Int} (h : OffRow w v zs) : ∀ s n c, v = .slice s n c → n ≤ c := by
  obtain ⟨ao, b, off, cap, rfl, hle, _⟩ := h.cell
  intro s n c e
  cases e; exact hle
set_option maxRecDepth 100000 in
set_option maxHeartbeats 2000000 in
theorem rput_room (g : Int) (hl : L.length < 256) (h : IsR S w p nv lv nx L) (hp : ¬ S p) (hS : ∀ k, w.heap.size ≤ k → S k) : Calls Try.prog 62 #[.pointer (some ⟨p, 0, none⟩), .int .i64 g, .bool false] w (Told S w p nx (L ++ [g]) []) := by
  have hplt := h.lt
  have h1 := h
  have hS0 := hS
  clear h hS
  have c1 := h1.c1
  have hcapl := h1.cap
  obtain ⟨sl, cl, el⟩ := ints_slice h1.lr
  have hsrc : Hid (∀ W, Below w.heap.size w W → Src Try.prog 1 41 lv L.length (cells L) W) := Lib.hid fun W hb => src_of_ints (h1.lr.below hb)
  have hfin : Hid (∀ (W : World) (v : Value), Below w.heap.size w W → Low w.heap.size (fun k => v.ownBlock = some k) → OffRow W v (L ++ [g]) → (∃ s n c, v = .slice s n c) ∧ W.cell? ⟨p, 1, none⟩ = some lv ∧ W.frozen? ⟨p, 1, none⟩ = false ∧ Hid (Told S w p nx (L ++ [g]) [] (.returned (.slice none 0 0)) (W.setCell ⟨p, 1, none⟩ v))) := Lib.hid fun W v hb hlow hr => by
    obtain ⟨s, c, e⟩ := hr.slice
    have h2 := h1.below hb
    obtain ⟨k1, k2⟩ := h1.setL hp hb (ints_made hr hlow hS0) (off_cap hr)
    exact ⟨⟨s, _, c, e⟩, h2.c1, h2.fz 1, Lib.hid ⟨_, _, _, rfl, k1, k2, ints_nil _ _⟩⟩
  have hbA : ([] : List Int).length + L.length ≤ 1000000 := by simp; omega
  have hbB : ([] ++ L : List Int).length + [g].length ≤ 1000000 := by simp; omega
  have hlt : (L.length : Int) < 256 := by omega
  rw [el] at c1 hsrc hfin
  have e1 : Hid ((w.alloc (.cells #[] 3)).heap[w.heap.size]? = some (.cells #[] 3 (0, 0))) := Lib.hid (heap_alloc_new _ _)
  have e2 : w.heap.size ≤ (w.alloc (.cells #[] 3)).heap.size := by show _ ≤ (w.heap.push _).size; rw [Array.size_push]; omega
  have hb1 : Hid (Below w.heap.size w (w.alloc (.cells #[] 3))) := Lib.hid (below_alloc (Below.refl _ _) _)
  replace hS0 := Lib.hid hS0
  clear h1 hcapl hp el hl
  go_enter Try.func62, Try.ntmps62
  go_wp2_with (first
    | (at_builtin; refine wpList_append_low rfl (.tmp 37) (.tmp 39) rfl rfl w.heap.size (off_below hr7.out hb78.out) hl7.out hs8 rfl rfl (src_one w7 g) hbB ?_; intro v9 w9 hr9 hl9 hb9; have hk9 := hfin.out w9 v9 (hb7.out.trans (hb8.out.trans hb9)) hl9 hr9; obtain ⟨⟨s9, n9, c9, rfl⟩, f1, f2, hgo⟩ := hk9; clear hr9 hl9 hb9 hfin)
    | (at_builtin; refine wpList_append_low rfl (.tmp 32) (.tmp 36) rfl rfl w.heap.size (off_empty (by exact e1.out)) (low_some (Nat.le_refl _)) (by exact e2) rfl rfl (hsrc.out _ hb1.out) hbA ?_; intro v7 w7 hr7 hl7 hb7; obtain ⟨s7, c7, rfl⟩ := hr7.slice; replace hr7 := Lib.hid hr7; replace hl7 := Lib.hid hl7; replace hb7 := Lib.hid (hb1.out.trans hb7); have hb78 : Hid (Below w7.heap.size w7 (w7.alloc (.cells #[.int .i64 g] 3))) := Lib.hid (below_alloc (Below.refl _ _) _); have hb8 : Hid (Below w.heap.size w7 (w7.alloc (.cells #[.int .i64 g] 3))) := Lib.hid (hb78.out.mono hb7.out.size); have hs8 : w.heap.size ≤ (w7.alloc (.cells #[.int .i64 g] 3)).heap.size := Nat.le_trans hb7.out.size hb78.out.size; clear e2))
  go_ret
  exact hgo.out
set_option maxRecDepth 100000 in
set_option maxHeartbeats 2000000 in
theorem rput_full (g : Int) (hl : L.length = 256) (h : IsR S w p nv lv nx L) (hp : ¬ S p) (hS : ∀ k, w.heap.size ≤ k → S k) : Calls Try.prog 62 #[.pointer (some ⟨p, 0, none⟩), .int .i64 g, .bool false] w (Told S w p nx (L.drop 128) (L.take 128 ++ [g])) := by
  have hplt := h.lt
  have h1 := h
  have hS0 := hS
  clear h hS
  have c1 := h1.c1
  have hcapl := h1.cap
  obtain ⟨sl, cl, el⟩ := ints_slice h1.lr
  subst el
  have hcl : 256 ≤ cl := by have := hcapl _ _ _ rfl; omega
  have hsrcA : Hid (∀ W, Below w.heap.size w W → Src Try.prog 1 41 (.slice sl 128 cl) (L.take 128).length (cells (L.take 128)) W) := Lib.hid fun W hb => src_of_ints ((ints_take h1.lr rfl (by omega)).below hb)
  have hsrcB : Hid (∀ W a1, (a1 = sl.map (·.add 128) ∨ cl = 128 ∧ a1 = sl) → Below w.heap.size w W → Src Try.prog 1 41 (.slice a1 128 (cl - 128)) (L.drop 128).length (cells (L.drop 128)) W) := Lib.hid fun W a1 ha hb => by
    have hd := ints_drop (n := 128) (a1 := a1) h1.lr rfl (by omega) ha (by omega)
    rw [show L.length - 128 = 128 by omega] at hd
    exact src_of_ints (hd.below hb)
  have hf1 : Hid (∀ (W : World) (v : Value), Below w.heap.size w W → OffRow W v (L.take 128 ++ [g]) → (∃ s c, v = .slice s 129 c)) := Lib.hid fun W v hb hr => by
    obtain ⟨s, c, e⟩ := off_slice hr (n := 129) (by rw [List.length_append, List.length_take, List.length_singleton]; omega)
    exact ⟨s, c, e⟩
  have hc1f : Hid (∀ W, Below w.heap.size w W → W.cell? ⟨p, 1, none⟩ = some (.slice sl 256 cl) ∧ W.frozen? ⟨p, 1, none⟩ = false) := Lib.hid fun W hb => by have h2 := h1.below hb; have h3 := h2.c1; rw [hl] at h3; exact ⟨h3, h2.fz 1⟩
  have hfin : Hid (∀ (W : World) (v W1 : _) (u : Value), Below w.heap.size w W → Low w.heap.size (fun k => v.ownBlock = some k) → OffRow W v (L.take 128 ++ [g]) → Below W.heap.size W W1 → Low W.heap.size (fun k => u.ownBlock = some k) → OffRow W1 u (L.drop 128) → Hid (Told S w p nx (L.drop 128) (L.take 128 ++ [g]) (.returned v) (W1.setCell ⟨p, 1, none⟩ u))) := Lib.hid fun W v W1 u hb hlow hr hb1 hlow1 hr1 => by
    have hb2 := hb.trans (hb1.mono hb.size)
    obtain ⟨k1, k2⟩ := h1.setL hp hb2 (ints_made (w := w) hr1 (fun k hk => Nat.le_trans hb.size (hlow1 k hk)) hS0) (off_cap hr1)
    refine Lib.hid ⟨_, _, _, rfl, k1, k2, ?_⟩
    have hi := (ints_made hr hlow hS0).below hb1
    exact hi.wrote (wrote_setCell (H := fun k => k = p) (a := ⟨p, 1, none⟩) (u := u) rfl rfl rfl rfl rfl) (fun k hk e => hp (e ▸ hk))
  have hbA : ([] : List Int).length + (L.take 128).length ≤ 1000000 := by simp; omega
  have hbB : ([] ++ L.take 128 : List Int).length + [g].length ≤ 1000000 := by simp; omega
  have hbC : ([] : List Int).length + (L.drop 128).length ≤ 1000000 := by simp; omega
  have hslot : ¬ cl = 128 := by omega
  have hsl2 : (128 : Int) ≤ (cl : Int) := by omega
  rw [hl] at c1
  generalize L.take 128 = LT at *
  generalize L.drop 128 = LD at *
  have e1 : Hid ((w.alloc (.cells #[] 3)).heap[w.heap.size]? = some (.cells #[] 3 (0, 0))) := Lib.hid (heap_alloc_new _ _)
  have e2 : w.heap.size ≤ (w.alloc (.cells #[] 3)).heap.size := by show _ ≤ (w.heap.push _).size; rw [Array.size_push]; omega
  have hb1 : Hid (Below w.heap.size w (w.alloc (.cells #[] 3))) := Lib.hid (below_alloc (Below.refl _ _) _)
  replace hS0 := Lib.hid hS0
  clear h1 hcapl hp hl
  go_enter Try.func62, Try.ntmps62
  go_wp2_with (first
    | (at_builtin; refine wpList_append_low rfl (.tmp 54) (.tmp 59) rfl rfl w9.heap.size (off_empty (by exact e3.out)) (low_some (Nat.le_refl _)) (by exact e4) rfl rfl (by exact hsrcB.out _ (sl.map (·.add 128)) (Or.inl rfl) (hb9.out.trans (hb10.out.mono hb9.out.size))) hbC ?_; intro u wB hrB hlB hbB2; have hk9 := hfin.out w9 _ wB u hb9.out hl9.out hr9.out (hb10.out.trans hbB2) hlB hrB; have hcB := hc1f.out wB (hb9.out.trans ((hb10.out.trans hbB2).mono hb9.out.size)); obtain ⟨f1, f2⟩ := hcB; obtain ⟨sB, cB, rfl⟩ := hrB.slice; clear hrB hlB hbB2 hfin)
    | (at_builtin; refine wpList_append_low rfl (.tmp 49) (.tmp 51) rfl rfl w.heap.size (off_below hr7.out hb78.out) hl7.out hs8 rfl rfl (src_one w7 g) hbB ?_; intro v9 w9 hr9 hl9 hb9; replace hb9 := Lib.hid (hb7.out.trans (hb8.out.trans hb9)); have hk8 := hf1.out w9 v9 hb9.out hr9; obtain ⟨s9, c9, rfl⟩ := hk8; have hcc := hc1f.out w9 hb9.out; obtain ⟨g1, g2⟩ := hcc; replace hr9 := Lib.hid hr9; replace hl9 := Lib.hid hl9; have e3 : Hid ((w9.alloc (.cells #[] 3)).heap[w9.heap.size]? = some (.cells #[] 3 (0, 0))) := Lib.hid (heap_alloc_new _ _); have e4 : w9.heap.size ≤ (w9.alloc (.cells #[] 3)).heap.size := Nat.le_of_lt (lt_new _ _); have hb10 : Hid (Below w9.heap.size w9 (w9.alloc (.cells #[] 3))) := Lib.hid (below_alloc (Below.refl _ _) _); have hp9 : p < w9.heap.size := Nat.lt_of_lt_of_le hplt hb9.out.size)
    | (at_builtin; refine wpList_append_low rfl (.tmp 43) (.tmp 48) rfl rfl w.heap.size (off_empty (by exact e1.out)) (low_some (Nat.le_refl _)) (by exact e2) rfl rfl (hsrcA.out _ hb1.out) hbA ?_; intro v7 w7 hr7 hl7 hb7; obtain ⟨s7, c7, rfl⟩ := hr7.slice; replace hr7 := Lib.hid hr7; replace hl7 := Lib.hid hl7; replace hb7 := Lib.hid (hb1.out.trans hb7); have hb78 : Hid (Below w7.heap.size w7 (w7.alloc (.cells #[.int .i64 g] 3))) := Lib.hid (below_alloc (Below.refl _ _) _); have hb8 : Hid (Below w.heap.size w7 (w7.alloc (.cells #[.int .i64 g] 3))) := Lib.hid (hb78.out.mono hb7.out.size); have hs8 : w.heap.size ≤ (w7.alloc (.cells #[.int .i64 g] 3)).heap.size := Nat.le_trans hb7.out.size hb78.out.size; clear e2))
  go_ret
  exact hk9.out
set_option maxRecDepth 100000 in
theorem rput_first (g : Int) (h : IsR S w p nv lv none L) (hp : ¬ S p) (hS : ∀ k, w.heap.size ≤ k → S k) : Calls Try.prog 62 #[.pointer (some ⟨p, 0, none⟩), .int .i64 g, .bool true] w (Told S w p (some g) L []) := by
  have hplt := h.lt
  have d0 := h.c0
  have fd0 := h.fz 0
  obtain ⟨s0, k0, e0⟩ := ints_slice h.nr
  subst e0
  simp only [Option.toList_none, List.length_nil] at d0
  have hfin : Hid (Told S w p (some g) L [] (.returned (.slice none 0 0)) ((w.alloc (.cells #[.int .i64 g] 3)).setCell ⟨p, 0, none⟩ (.slice (some ⟨w.heap.size, 0, none⟩) 1 1))) := by
    obtain ⟨k1, k2⟩ := h.setN hp (below_alloc (Below.refl _ _) _) (nx' := some g) (ints_lit1 w g (hS _ (Nat.le_refl _)))
    exact ⟨_, _, _, rfl, k1, k2, ints_nil _ _⟩
  rw [World.setCell_alloc_past _ _ _ _ hplt] at hfin
  clear h
  go_enter Try.func62, Try.ntmps62
  go_wp2_with fail
  go_ret
  exact hfin.out
set_option maxRecDepth 100000 in
set_option maxHeartbeats 2000000 in
theorem rput_room_next {o : Int} (g : Int) (hl : L.length < 256) (h : IsR S w p nv lv (some o) L) (hp : ¬ S p) (hS : ∀ k, w.heap.size ≤ k → S k) : Calls Try.prog 62 #[.pointer (some ⟨p, 0, none⟩), .int .i64 g, .bool true] w (Told S w p (some g) (L ++ [o]) []) := by
  have hplt := h.lt
  have d0 := h.c0
  have fd0 := h.fz 0
  obtain ⟨s0, k0, e0, _, hc⟩ := h.nr
  obtain ⟨bo, oo, rfl, _, hbl, hcell⟩ := hc 0 (by simp)
  simp only [Option.toList_some, List.length_singleton, Nat.add_zero] at e0 hcell
  have hcell : w.cell? ⟨bo, oo, none⟩ = some (.int .i64 o) := hcell
  subst e0
  have hne : bo ≠ p := fun e => hp (e ▸ (by obtain ⟨b2, o2, e2, h2, _⟩ := hc 0 (by simp); cases e2; exact h2))
  have hbA0 : Below w.heap.size w (w.alloc (.cells #[.int .i64 g] 3)) := below_alloc (Below.refl _ _) _
  have hset := h.setN hp hbA0 (nx' := some g) (ints_lit1 w g (hS _ (Nat.le_refl _)))
  have hw0 := Lib.hid hset.1
  have hsz0 : w.heap.size ≤ ((w.alloc (.cells #[.int .i64 g] 3)).setCell ⟨p, 0, none⟩ (.slice (some ⟨w.heap.size, 0, none⟩) 1 1)).heap.size := hset.1.size
  have h1 := hset.2
  clear h hbA0 hset hc
  have hb0 : Hid (w.alloc (.cells #[.int .i64 g] 3) = w.alloc (.cells #[.int .i64 g] 3)) := rfl
  rw [World.setCell_alloc_past _ _ _ _ hplt] at hw0 hsz0 h1
  obtain ⟨w0, hw00⟩ : ∃ w0, (w.setCell ⟨p, 0, none⟩ (.slice (some ⟨w.heap.size, 0, none⟩) 1 1)).alloc (.cells #[.int .i64 g] 3) = w0 := ⟨_, rfl⟩
  rw [hw00] at hw0 hsz0 h1
  have hcell0 : w0.cell? ⟨bo, oo, none⟩ = some (.int .i64 o) := hw0.out.cell hcell (fun e => hne e)
  have hplt0 : p < w0.heap.size := h1.lt
  have hS0 : ∀ k, w0.heap.size ≤ k → S k := fun k hk => hS k (Nat.le_trans hsz0 hk)
  have c1 := h1.c1
  have hcapl := h1.cap
  obtain ⟨sl, cl, el⟩ := ints_slice h1.lr
  have hsrc : Hid (∀ W, Below w0.heap.size w0 W → Src Try.prog 1 41 lv L.length (cells L) W) := Lib.hid fun W hb => src_of_ints (h1.lr.below hb)
  have hfin : Hid (∀ (W : World) (v : Value), Below w0.heap.size w0 W → Low w0.heap.size (fun k => v.ownBlock = some k) → OffRow W v (L ++ [o]) → (∃ s n c, v = .slice s n c) ∧ W.cell? ⟨p, 1, none⟩ = some lv ∧ W.frozen? ⟨p, 1, none⟩ = false ∧ Hid (Told S w p (some g) (L ++ [o]) [] (.returned (.slice none 0 0)) (W.setCell ⟨p, 1, none⟩ v))) := Lib.hid fun W v hb hlow hr => by
    obtain ⟨s, c, e⟩ := hr.slice
    have h2 := h1.below hb
    obtain ⟨k1, k2⟩ := h1.setL hp hb (ints_made hr hlow hS0) (off_cap hr)
    exact ⟨⟨s, _, c, e⟩, h2.c1, h2.fz 1, Lib.hid ⟨_, _, _, rfl, hw0.out.trans k1, k2, ints_nil _ _⟩⟩
  have hbA : ([] : List Int).length + L.length ≤ 1000000 := by simp; omega
  have hbB : ([] ++ L : List Int).length + [o].length ≤ 1000000 := by simp; omega
  have hlt : (L.length : Int) < 256 := by omega
  rw [el] at c1 hsrc hfin
  have e1 : Hid ((w0.alloc (.cells #[] 3)).heap[w0.heap.size]? = some (.cells #[] 3 (0, 0))) := Lib.hid (heap_alloc_new _ _)
  have e2 : w0.heap.size ≤ (w0.alloc (.cells #[] 3)).heap.size := by show _ ≤ (w0.heap.push _).size; rw [Array.size_push]; omega
  have hb1 : Hid (Below w0.heap.size w0 (w0.alloc (.cells #[] 3))) := Lib.hid (below_alloc (Below.refl _ _) _)
  replace hS0 := Lib.hid hS0
  clear h1 hcapl hp el hl
  clear hw0 hne hsz0 hS hb0
  replace hw00 := Lib.hid hw00
  go_enter Try.func62, Try.ntmps62
  go_upto_region 6 with fail
  rw [hw00.out]
  clear hw00
  go_wp2_with (first
    | (at_builtin; refine wpList_append_low rfl (.tmp 37) (.tmp 39) rfl rfl w0.heap.size (off_below hr7.out hb78.out) hl7.out hs8 rfl rfl (src_one w7 o) hbB ?_; intro v9 w9 hr9 hl9 hb9; have hk9 := hfin.out w9 v9 (hb7.out.trans (hb8.out.trans hb9)) hl9 hr9; obtain ⟨⟨s9, n9, c9, rfl⟩, f1, f2, hgo⟩ := hk9; clear hr9 hl9 hb9 hfin)
    | (at_builtin; refine wpList_append_low rfl (.tmp 32) (.tmp 36) rfl rfl w0.heap.size (off_empty (by exact e1.out)) (low_some (Nat.le_refl _)) (by exact e2) rfl rfl (hsrc.out _ hb1.out) hbA ?_; intro v7 w7 hr7 hl7 hb7; obtain ⟨s7, c7, rfl⟩ := hr7.slice; replace hr7 := Lib.hid hr7; replace hl7 := Lib.hid hl7; replace hb7 := Lib.hid (hb1.out.trans hb7); have hb78 : Hid (Below w7.heap.size w7 (w7.alloc (.cells #[.int .i64 o] 3))) := Lib.hid (below_alloc (Below.refl _ _) _); have hb8 : Hid (Below w0.heap.size w7 (w7.alloc (.cells #[.int .i64 o] 3))) := Lib.hid (hb78.out.mono hb7.out.size); have hs8 : w0.heap.size ≤ (w7.alloc (.cells #[.int .i64 o] 3)).heap.size := Nat.le_trans hb7.out.size hb78.out.size; clear e2))
  go_ret
  exact hgo.out
set_option maxRecDepth 100000 in
set_option maxHeartbeats 2000000 in
theorem rput_full_next {o : Int} (g : Int) (hl : L.length = 256) (h : IsR S w p nv lv (some o) L) (hp : ¬ S p) (hS : ∀ k, w.heap.size ≤ k → S k) : Calls Try.prog 62 #[.pointer (some ⟨p, 0, none⟩), .int .i64 g, .bool true] w (Told S w p (some g) (L.drop 128) (L.take 128 ++ [o])) := by
  have hplt := h.lt
  have d0 := h.c0
  have fd0 := h.fz 0
  obtain ⟨s0, k0, e0, _, hc⟩ := h.nr
  obtain ⟨bo, oo, rfl, _, hbl, hcell⟩ := hc 0 (by simp)
  simp only [Option.toList_some, List.length_singleton, Nat.add_zero] at e0 hcell
  have hcell : w.cell? ⟨bo, oo, none⟩ = some (.int .i64 o) := hcell
  subst e0
  have hne : bo ≠ p := fun e => hp (e ▸ (by obtain ⟨b2, o2, e2, h2, _⟩ := hc 0 (by simp); cases e2; exact h2))
  have hbA0 : Below w.heap.size w (w.alloc (.cells #[.int .i64 g] 3)) := below_alloc (Below.refl _ _) _
  have hset := h.setN hp hbA0 (nx' := some g) (ints_lit1 w g (hS _ (Nat.le_refl _)))
  have hw0 := Lib.hid hset.1
  have hsz0 : w.heap.size ≤ ((w.alloc (.cells #[.int .i64 g] 3)).setCell ⟨p, 0, none⟩ (.slice (some ⟨w.heap.size, 0, none⟩) 1 1)).heap.size := hset.1.size
  have h1 := hset.2
  clear h hbA0 hset hc
  have hb0 : Hid (w.alloc (.cells #[.int .i64 g] 3) = w.alloc (.cells #[.int .i64 g] 3)) := rfl
  rw [World.setCell_alloc_past _ _ _ _ hplt] at hw0 hsz0 h1
  obtain ⟨w0, hw00⟩ : ∃ w0, (w.setCell ⟨p, 0, none⟩ (.slice (some ⟨w.heap.size, 0, none⟩) 1 1)).alloc (.cells #[.int .i64 g] 3) = w0 := ⟨_, rfl⟩
  rw [hw00] at hw0 hsz0 h1
  have hcell0 : w0.cell? ⟨bo, oo, none⟩ = some (.int .i64 o) := hw0.out.cell hcell (fun e => hne e)
  have hplt0 : p < w0.heap.size := h1.lt
  have hS0 : ∀ k, w0.heap.size ≤ k → S k := fun k hk => hS k (Nat.le_trans hsz0 hk)
  have c1 := h1.c1
  have hcapl := h1.cap
  obtain ⟨sl, cl, el⟩ := ints_slice h1.lr
  subst el
  have hcl : 256 ≤ cl := by have := hcapl _ _ _ rfl; omega
  have hsrcA : Hid (∀ W, Below w0.heap.size w0 W → Src Try.prog 1 41 (.slice sl 128 cl) (L.take 128).length (cells (L.take 128)) W) := Lib.hid fun W hb => src_of_ints ((ints_take h1.lr rfl (by omega)).below hb)
  have hsrcB : Hid (∀ W a1, (a1 = sl.map (·.add 128) ∨ cl = 128 ∧ a1 = sl) → Below w0.heap.size w0 W → Src Try.prog 1 41 (.slice a1 128 (cl - 128)) (L.drop 128).length (cells (L.drop 128)) W) := Lib.hid fun W a1 ha hb => by
    have hd := ints_drop (n := 128) (a1 := a1) h1.lr rfl (by omega) ha (by omega)
    rw [show L.length - 128 = 128 by omega] at hd
    exact src_of_ints (hd.below hb)
  have hf1 : Hid (∀ (W : World) (v : Value), Below w0.heap.size w0 W → OffRow W v (L.take 128 ++ [o]) → (∃ s c, v = .slice s 129 c)) := Lib.hid fun W v hb hr => by
    obtain ⟨s, c, e⟩ := off_slice hr (n := 129) (by rw [List.length_append, List.length_take, List.length_singleton]; omega)
    exact ⟨s, c, e⟩
  have hc1f : Hid (∀ W, Below w0.heap.size w0 W → W.cell? ⟨p, 1, none⟩ = some (.slice sl 256 cl) ∧ W.frozen? ⟨p, 1, none⟩ = false) := Lib.hid fun W hb => by have h2 := h1.below hb; have h3 := h2.c1; rw [hl] at h3; exact ⟨h3, h2.fz 1⟩
  have hfin : Hid (∀ (W : World) (v W1 : _) (u : Value), Below w0.heap.size w0 W → Low w0.heap.size (fun k => v.ownBlock = some k) → OffRow W v (L.take 128 ++ [o]) → Below W.heap.size W W1 → Low W.heap.size (fun k => u.ownBlock = some k) → OffRow W1 u (L.drop 128) → Hid (Told S w p (some g) (L.drop 128) (L.take 128 ++ [o]) (.returned v) (W1.setCell ⟨p, 1, none⟩ u))) := Lib.hid fun W v W1 u hb hlow hr hb1 hlow1 hr1 => by
    have hb2 := hb.trans (hb1.mono hb.size)
    obtain ⟨k1, k2⟩ := h1.setL hp hb2 (ints_made (w := w0) hr1 (fun k hk => Nat.le_trans hb.size (hlow1 k hk)) hS0) (off_cap hr1)
    refine Lib.hid ⟨_, _, _, rfl, hw0.out.trans k1, k2, ?_⟩
    have hi := (ints_made hr hlow hS0).below hb1
    exact hi.wrote (wrote_setCell (H := fun k => k = p) (a := ⟨p, 1, none⟩) (u := u) rfl rfl rfl rfl rfl) (fun k hk e => hp (e ▸ hk))
  have hbA : ([] : List Int).length + (L.take 128).length ≤ 1000000 := by simp; omega
  have hbB : ([] ++ L.take 128 : List Int).length + [o].length ≤ 1000000 := by simp; omega
  have hbC : ([] : List Int).length + (L.drop 128).length ≤ 1000000 := by simp; omega
  have hslot : ¬ cl = 128 := by omega
  have hsl2 : (128 : Int) ≤ (cl : Int) := by omega
  rw [hl] at c1
  generalize L.take 128 = LT at *
  generalize L.drop 128 = LD at *
  have e1 : Hid ((w0.alloc (.cells #[] 3)).heap[w0.heap.size]? = some (.cells #[] 3 (0, 0))) := Lib.hid (heap_alloc_new _ _)
  have e2 : w0.heap.size ≤ (w0.alloc (.cells #[] 3)).heap.size := by show _ ≤ (w0.heap.push _).size; rw [Array.size_push]; omega
  have hb1 : Hid (Below w0.heap.size w0 (w0.alloc (.cells #[] 3))) := Lib.hid (below_alloc (Below.refl _ _) _)
  replace hS0 := Lib.hid hS0
  clear h1 hcapl hp hl
  clear hw0 hne hsz0 hS hb0
  replace hw00 := Lib.hid hw00
  go_enter Try.func62, Try.ntmps62
  go_upto_region 6 with fail
  rw [hw00.out]
  clear hw00
  go_wp2_with (first
    | (at_builtin; refine wpList_append_low rfl (.tmp 54) (.tmp 59) rfl rfl w9.heap.size (off_empty (by exact e3.out)) (low_some (Nat.le_refl _)) (by exact e4) rfl rfl (by exact hsrcB.out _ (sl.map (·.add 128)) (Or.inl rfl) (hb9.out.trans (hb10.out.mono hb9.out.size))) hbC ?_; intro u wB hrB hlB hbB2; have hk9 := hfin.out w9 _ wB u hb9.out hl9.out hr9.out (hb10.out.trans hbB2) hlB hrB; have hcB := hc1f.out wB (hb9.out.trans ((hb10.out.trans hbB2).mono hb9.out.size)); obtain ⟨f1, f2⟩ := hcB; obtain ⟨sB, cB, rfl⟩ := hrB.slice; clear hrB hlB hbB2 hfin)
    | (at_builtin; refine wpList_append_low rfl (.tmp 49) (.tmp 51) rfl rfl w0.heap.size (off_below hr7.out hb78.out) hl7.out hs8 rfl rfl (src_one w7 o) hbB ?_; intro v9 w9 hr9 hl9 hb9; replace hb9 := Lib.hid (hb7.out.trans (hb8.out.trans hb9)); have hk8 := hf1.out w9 v9 hb9.out hr9; obtain ⟨s9, c9, rfl⟩ := hk8; have hcc := hc1f.out w9 hb9.out; obtain ⟨g1, g2⟩ := hcc; replace hr9 := Lib.hid hr9; replace hl9 := Lib.hid hl9; have e3 : Hid ((w9.alloc (.cells #[] 3)).heap[w9.heap.size]? = some (.cells #[] 3 (0, 0))) := Lib.hid (heap_alloc_new _ _); have e4 : w9.heap.size ≤ (w9.alloc (.cells #[] 3)).heap.size := Nat.le_of_lt (lt_new _ _); have hb10 : Hid (Below w9.heap.size w9 (w9.alloc (.cells #[] 3))) := Lib.hid (below_alloc (Below.refl _ _) _); have hp9 : p < w9.heap.size := Nat.lt_of_lt_of_le hplt0 hb9.out.size)
    | (at_builtin; refine wpList_append_low rfl (.tmp 43) (.tmp 48) rfl rfl w0.heap.size (off_empty (by exact e1.out)) (low_some (Nat.le_refl _)) (by exact e2) rfl rfl (hsrcA.out _ hb1.out) hbA ?_; intro v7 w7 hr7 hl7 hb7; obtain ⟨s7, c7, rfl⟩ := hr7.slice; replace hr7 := Lib.hid hr7; replace hl7 := Lib.hid hl7; replace hb7 := Lib.hid (hb1.out.trans hb7); have hb78 : Hid (Below w7.heap.size w7 (w7.alloc (.cells #[.int .i64 o] 3))) := Lib.hid (below_alloc (Below.refl _ _) _); have hb8 : Hid (Below w0.heap.size w7 (w7.alloc (.cells #[.int .i64 o] 3))) := Lib.hid (hb78.out.mono hb7.out.size); have hs8 : w0.heap.size ≤ (w7.alloc (.cells #[.int .i64 o] 3)).heap.size := Nat.le_trans hb7.out.size hb78.out.size; clear e2))
  go_ret
  exact hk9.out
set_option maxRecDepth 100000 in
theorem rget_none (h : IsR S w p nv lv none []) : Calls Try.prog 67 #[.pointer (some ⟨p, 0, none⟩)] w (Still (.tuple #[.int .i64 0, .bool false]) w) := by
  have c0 := h.c0
  have c1 := h.c1
  obtain ⟨s0, k0, e0⟩ := ints_slice h.nr
  obtain ⟨s1, k1, e1⟩ := ints_slice h.lr
  subst e0 e1
  simp only [Option.toList_none, List.length_nil] at c0 c1
  clear h
  go_enter Try.func67, Try.ntmps67
  go_wp2_with fail
  go_ret2
  exact ⟨rfl, rfl⟩
/-- The call answers r; of what there was the ring at p alone has turned. -/
def Turned (S : Home) (r : Value) (w : World) (p : Nat) (nx : Option Int) (L : List Int) (e : Ending) (w' : World) : Prop :=
  ∃ nv' lv', e = .returned r ∧ Wrote (fun k => k = p) w (fun k => k = p) w' ∧ IsR S w' p nv' lv' nx L
set_option maxRecDepth 100000 in
theorem rget_next {g : Int} (h : IsR S w p nv lv (some g) L) (hp : ¬ S p) : Calls Try.prog 67 #[.pointer (some ⟨p, 0, none⟩)] w (Turned S (.tuple #[.int .i64 g, .bool true]) w p none L) := by
  have c0 := h.c0
  have f0 := h.fz 0
  obtain ⟨s0, k0, e0, _, hc⟩ := h.nr
  obtain ⟨b, o, rfl, _, hbl, hcell⟩ := hc 0 (by simp)
  simp only [Option.toList_some, List.length_singleton, Nat.add_zero] at e0 hcell
  have hcell : w.cell? ⟨b, o, none⟩ = some (.int .i64 g) := hcell
  subst e0
  have hfin : Hid (Turned S (.tuple #[.int .i64 g, .bool true]) w p none L (.returned (.tuple #[.int .i64 g, .bool true])) (w.setCell ⟨p, 0, none⟩ (.slice none 0 0))) := by
    obtain ⟨k1, k2⟩ := h.setN hp (Below.refl _ _) (nx' := none) (v1 := .slice none 0 0) (ints_nil _ _)
    exact ⟨_, _, rfl, k1, k2⟩
  clear h hc
  go_enter Try.func67, Try.ntmps67
  go_wp2_with fail
  go_ret2
  exact hfin.out
set_option maxRecDepth 100000 in
theorem rget_row {g : Int} (h : IsR S w p nv lv none (g :: L)) (hp : ¬ S p) : Calls Try.prog 67 #[.pointer (some ⟨p, 0, none⟩)] w (Turned S (.tuple #[.int .i64 g, .bool true]) w p none L) := by
  have c0 := h.c0
  have c1 := h.c1
  have f1 := h.fz 1
  obtain ⟨s0, k0, e0⟩ := ints_slice h.nr
  obtain ⟨s1, k1, e1, _, hc⟩ := h.lr
  obtain ⟨b, o, rfl, _, hbl, hcell⟩ := hc 0 (by simp)
  have hcell : w.cell? ⟨b, o, none⟩ = some (.int .i64 g) := hcell
  have hcap := h.cap _ _ _ e1
  have hfin : Hid (∀ a1, (a1 = some ⟨b, o + 1, none⟩ ∨ k1 = 1 ∧ a1 = some ⟨b, o, none⟩) → Turned S (.tuple #[.int .i64 g, .bool true]) w p none L (.returned (.tuple #[.int .i64 g, .bool true])) (w.setCell ⟨p, 1, none⟩ (.slice a1 L.length (k1 - 1)))) := Lib.hid fun a1 ha => by
    have hd := ints_drop (n := 1) (a1 := a1) (by rw [← e1]; exact h.lr) rfl (by simp) (ha.imp (fun e => by rw [e]; simp [addr_add]) id) hcap
    obtain ⟨k2, k3⟩ := h.setL hp (Below.refl _ _) (L' := L) hd (fun s n c e => by cases e; have : (g :: L).length = L.length + 1 := rfl; omega)
    exact ⟨_, _, rfl, k2, k3⟩
  subst e0 e1
  simp only [Option.toList_none, List.length_nil, List.length_cons] at c0 c1 hcap
  clear h hc
  generalize L.length = l at *
  have hl1 : (1 : Int) ≤ (k1 : Int) := by omega
  by_cases hk : k1 = 1
  · subst hk
    go_enter Try.func67, Try.ntmps67
    go_wp2_with fail
    go_ret2
    have hl0 : l = 0 := by omega
    subst hl0
    exact hfin.out _ (.inr ⟨trivial, rfl⟩)
  · go_enter Try.func67, Try.ntmps67
    go_wp2_with fail
    go_ret2
    exact hfin.out _ (.inl rfl)
theorem rput_any (g : Int) (b : Bool) (h : IsR S w p nv lv nx L) (hs : L.length ≤ 256) (hp : ¬ S p) (hS : ∀ k, w.heap.size ≤ k → S k) : Calls Try.prog 62 #[.pointer (some ⟨p, 0, none⟩), .int .i64 g, .bool b] w (Told S w p (Ri.putN nx g b) (Ri.putL L (Ri.putG nx g b)) (Ri.putO L (Ri.putG nx g b))) := by
  by_cases hl : L.length < 256
  · cases b with
    | false =>
      unfold Ri.putN Ri.putG Ri.putO Ri.putL
      simp only [Bool.false_eq_true, if_false, if_pos hl]
      exact rput_room g hl h hp hS
    | true => cases nx with
      | none => exact rput_first g h hp hS
      | some o =>
        unfold Ri.putN Ri.putG Ri.putO Ri.putL
        simp only [if_true, if_pos hl]
        exact rput_room_next g hl h hp hS
  · have hl2 : L.length = 256 := by omega
    cases b with
    | false =>
      unfold Ri.putN Ri.putG Ri.putO Ri.putL
      simp only [Bool.false_eq_true, if_false, if_neg hl]
      exact rput_full g hl2 h hp hS
    | true => cases nx with
      | none => exact rput_first g h hp hS
      | some o =>
        unfold Ri.putN Ri.putG Ri.putO Ri.putL
        simp only [if_true, if_neg hl]
        exact rput_full_next g hl2 h hp hS
/-- Two rows behind one another, in memory that the call made. -/
def Made (w : World) (zs : List Int) (e : Ending) (w' : World) : Prop := ∃ v', e = .returned v' ∧ OffRow w' v' zs ∧ Low w.heap.size (fun k => v'.ownBlock = some k) ∧ Below w.heap.size w w'
set_option maxRecDepth 100000 in
set_option maxHeartbeats 2000000 in
theorem rall_any (h : IsR S w p nv lv nx L) (hs : L.length ≤ 500000) : Calls Try.prog 28 #[.pointer (some ⟨p, 0, none⟩)] w (Made w (nx.toList ++ L)) := by
  have c0 := h.c0
  have c1 := h.c1
  have hplt := h.lt
  obtain ⟨s0, k0, e0⟩ := ints_slice h.nr
  obtain ⟨s1, k1, e1⟩ := ints_slice h.lr
  have hn : nx.toList.length ≤ 1 := by cases nx <;> simp
  have hsN : Hid (∀ W, Below w.heap.size w W → Src Try.prog 1 41 nv nx.toList.length (cells nx.toList) W) := Lib.hid fun W hb => src_of_ints (h.nr.below hb)
  have hsL : Hid (∀ W, Below w.heap.size w W → Src Try.prog 1 41 lv L.length (cells L) W) := Lib.hid fun W hb => src_of_ints (h.lr.below hb)
  have hbA : ([] : List Int).length + nx.toList.length ≤ 1000000 := by simp; omega
  have hbB : nx.toList.length + L.length ≤ 1000000 := by omega
  have hfin : Hid (∀ (W : World) (v : Value), Below w.heap.size w W → Low w.heap.size (fun k => v.ownBlock = some k) → OffRow W v (nx.toList ++ L) → (∃ s n c, v = .slice s n c) ∧ Hid (Made w (nx.toList ++ L) (.returned v) W)) := Lib.hid fun W v hb hlow hr => by
    obtain ⟨s, c, e⟩ := hr.slice
    exact ⟨⟨s, _, c, e⟩, Lib.hid ⟨_, rfl, hr, hlow, hb⟩⟩
  rw [e0] at c0 hsN
  rw [e1] at c1 hsL
  generalize nx.toList = NL at *
  clear h e0 e1 hn hs
  go_enter Try.func28, Try.ntmps28
  go_wp2_with fail
  go_region_law (first
    | (refine step_append_off rfl (.tmp 8) (.tmp 12) rfl rfl (off_below hrA.out (by (repeat (first | exact Below.refl _ _ | refine below_alloc ?_ _ | refine below_drewN ?_ _ | refine Below.drew ?_)))) rfl rfl (hsL.out _ (by (repeat (first | exact hBA.out | exact Below.refl _ _ | refine below_alloc ?_ _ | refine below_drewN ?_ _ | refine Below.drew ?_)))) hbB ?_; intro v9 w9 g3 g4; have hl9 := g4.low hlA.out (Below.size (w := w) (by (repeat (first | exact hBA.out | exact Below.refl _ _ | refine below_alloc ?_ _ | refine below_drewN ?_ _ | refine Below.drew ?_)))); have hB9 := g4.below hlA.out (by (repeat (first | exact hBA.out | exact Below.refl _ _ | refine below_alloc ?_ _ | refine below_drewN ?_ _ | refine Below.drew ?_))); have hk9 := hfin.out w9 v9 hB9 hl9 g3; obtain ⟨⟨s9, n9, c9, rfl⟩, hgo⟩ := hk9; clear g3 g4 hl9 hB9 hrA hlA hBA hfin)
    | (refine step_append_off rfl (.tmp 3) (.tmp 7) rfl rfl (lit_off (by first | exact lt_new _ _ | exact lt_new1 (by exact size_new w _) | exact Nat.lt_trans (lt_new _ _) (lt_new _ _))) rfl rfl (hsN.out _ (by (repeat (first | exact Below.refl _ _ | refine below_alloc ?_ _ | refine below_drewN ?_ _ | refine Below.drew ?_)))) hbA ?_; intro vA wA g1 g2; have hk := off_one (wq := w) (by (repeat (first | exact Below.refl _ _ | refine below_alloc ?_ _ | refine below_drewN ?_ _ | refine Below.drew ?_))) (by first | exact Nat.le_refl _ | exact Nat.le_succ _ | exact Below.size (w := w) (by (repeat (first | exact Below.refl _ _ | refine below_alloc ?_ _ | refine below_drewN ?_ _ | refine Below.drew ?_)))) g1 g2; have hrA := Lib.hid hk.1; have hlA := Lib.hid hk.2.1; have hBA := Lib.hid hk.2.2.1; have fA1 := cell_then hBA.out c1; have fA0 := cell_then hBA.out c0; clear hk g1 g2))
  all_goals
    go_wp2_with fail
    go_ret
    exact hgo.out
theorem infoRR : ((Try.prog.info? 82).map (·.size)) = some 2 := by kernel_rfl
theorem req_other (hpq : p ≠ q) (h : IsR S w p nv lv nx L) (h2 : IsR S w q mv kv ny M) : (binOp .eql 43 (.pointer (some ⟨q, 0, none⟩)) (.pointer (some ⟨p, 0, none⟩))).run Try.prog w = .ok (.bool false) w := by
  obtain ⟨j, hj, hs⟩ := Option.map_eq_some_iff.1 infoRR
  exact run_eql_ptr_other w Try.underlying43 hj (by omega) (fun e => hpq (congrArg Addr.block e).symm) h2.head h.head
/-- The call answers r; two rings have turned, and nothing else. -/
def Stole (S : Home) (r : Value) (w : World) (p q : Nat) (nx : Option Int) (L : List Int) (ny : Option Int) (M : List Int) (e : Ending) (w' : World) : Prop :=
  ∃ nv lv mv kv, e = .returned r ∧ Wrote (both p q) w (both p q) w' ∧ IsR S w' p nv lv nx L ∧ IsR S w' q mv kv ny M
set_option maxRecDepth 100000 in
theorem rsteal_no (hpq : p ≠ q) (h : IsR S w p nv lv nx L) (h2 : IsR S w q mv kv ny []) (hno : ny = none ∨ L.length = 256) : Calls Try.prog 69 #[.pointer (some ⟨p, 0, none⟩), .pointer (some ⟨q, 0, none⟩)] w (Still (.int .i64 0) w) := by
  have he := req_other hpq h h2
  have c1 := h.c1
  have d0 := h2.c0
  have d1 := h2.c1
  obtain ⟨s1, k1, e1⟩ := ints_slice h.lr
  obtain ⟨t0, j0, g0⟩ := ints_slice h2.nr
  obtain ⟨t1, j1, g1⟩ := ints_slice h2.lr
  subst e1 g0 g1
  simp only [List.length_nil] at d1
  clear h h2
  cases ny with
  | none =>
    simp only [Option.toList_none, List.length_nil] at d0
    clear hno
    generalize L.length = l at *
    go_enter Try.func69, Try.ntmps69
    go_wp2_with fail
    go_ret
    exact ⟨rfl, rfl⟩
  | some y =>
    have hl : L.length = 256 := by rcases hno with h | h; cases h; exact h
    rw [hl] at c1
    simp only [Option.toList_some, List.length_singleton] at d0
    clear hno hl
    go_enter Try.func69, Try.ntmps69
    go_wp2_with fail
    go_ret
    exact ⟨rfl, rfl⟩
theorem wrote_l {a b : World} (h : Wrote (fun k => k = p) a (fun k => k = p) b) : Wrote (both p q) a (both p q) b :=
  ⟨h.os, h.tape, h.output, h.size, fun k hk hn => h.block k hk (fun e => hn (Or.inl e)), fun _ h => Or.inl h⟩
theorem wrote_r {a b : World} (h : Wrote (fun k => k = q) a (fun k => k = q) b) : Wrote (both p q) a (both p q) b :=
  ⟨h.os, h.tape, h.output, h.size, fun k hk hn => h.block k hk (fun e => hn (Or.inr e)), fun _ h => Or.inl h⟩
end Rr
end Go.Proofs.Ytpclacaiabbmjaa
