/- The document's own buffer: a plain list that is never written again once it is made; what its calls answer and make. -/
import Derived.Test.YtclldajbibhcbaaBufMore
import Derived.Test.YtclldajbibhcbaaOut
import Derived.Test.YtclldajbibhcbaaPutNew
import Derived.Test.YtclldajbibhcbaaMinMax
import Derived.LaidEqlPtr
import Derived.RegionTactic
import Derived.StillTailTactics
import Derived.Deep.RegionLaw
import Derived.Deep.RegionHeld3
namespace Go.Proofs.Ytclldajbibhcbaa
open Go.RowKit Go.Lib Fx Ho Rw Qu
set_option linter.unusedVariables false
namespace Rb
/-- A buffer of the document's at p; its row lies in a block of S. -/
structure IsB (S : Home) (w : World) (p : Nat) (v : Value) (L : List Int) : Prop where
  head : w.heap[p]? = some (.cells #[v] 86 (0, 0))
  row : Ints w S v L
  cap : ∀ s n c, v = .slice s n c → n ≤ c
variable {S : Home} {w w' : World} {p q : Nat} {v u : Value} {L M : List Int} {H H' : Home}
namespace IsB
theorem c0 (h : IsB S w p v L) : w.cell? ⟨p, 0, none⟩ = some v := cell_of h.head rfl
theorem fz (h : IsB S w p v L) : w.frozen? ⟨p, 0, none⟩ = false := frozen_of_row w p 0 _ _ h.head
theorem lt (h : IsB S w p v L) : p < w.heap.size := block_lt h.head
theorem wrote (h : IsB S w p v L) (ht : Wrote H w H' w') (hp : ¬ H p) (ho : Off S H) : IsB S w' p v L := ⟨by rw [ht.block p h.lt hp]; exact h.head, h.row.wrote ht ho, h.cap⟩
theorem below (h : IsB S w p v L) (hb : Below w.heap.size w w') : IsB S w' p v L := h.wrote (H := fun _ => False) (Wrote.of_below hb) (fun h => h) (fun _ _ h => h)
theorem slice (h : IsB S w p v L) : ∃ s c, v = .slice s L.length c ∧ L.length ≤ c := by obtain ⟨s, c, e, _⟩ := h.row; exact ⟨s, c, e, h.cap _ _ _ e⟩
/-- The row is another one. -/
theorem lay (h : IsB S w p v L) (hp : ¬ S p) {w1 : World} {v1 : Value} {L' : List Int} (hb : Below w.heap.size w w1) (hv : Ints w1 S v1 L') (hc : ∀ s n c, v1 = .slice s n c → n ≤ c) : Wrote (fun k => k = p) w (fun k => k = p) (w1.setCell ⟨p, 0, none⟩ v1) ∧ IsB S (w1.setCell ⟨p, 0, none⟩ v1) p v1 L' := by
  have h1 := h.below hb
  have hw : Wrote (fun k => k = p) w1 (fun k => k = p) (w1.setCell ⟨p, 0, none⟩ v1) := wrote_setCell (a := ⟨p, 0, none⟩) (u := v1) rfl rfl rfl rfl rfl
  refine ⟨(Wrote.of_below hb).trans hw, ⟨?_, hv.wrote hw (fun k hk e => hp (e ▸ hk)), hc⟩⟩
  rw [heap_setCell_same _ p 0 _ _ _ h1.head]; rfl
end IsB
theorem ints_made {v : Value} {zs : List Int} (h : OffRow w' v zs) (hl : Low w.heap.size (fun k => v.ownBlock = some k)) (hS : ∀ k, w.heap.size ≤ k → S k) : Ints w' S v zs := h.ints.wider (fun k hk _ => hS k (hl k hk))
theorem off_cap {v : Value} {zs : List Int} (h : OffRow w v zs) : ∀ s n c, v = .slice s n c → n ≤ c := by
  obtain ⟨ao, b, off, cap, rfl, hle, _⟩ := h.cell
  intro s n c e
  cases e; exact hle
theorem ints_drop {sp a1 : Option Addr} {zs : List Int} {l n cap : Nat} (h : Ints w S (.slice sp l cap) zs) (hl : zs.length = l) (hn : n ≤ l) (ha : a1 = sp.map (·.add n) ∨ cap = n ∧ a1 = sp) (hc : l ≤ cap) : Ints w S (.slice a1 (l - n) (cap - n)) (zs.drop n) := by
  obtain ⟨sp', cap', e, hm, hcell⟩ := h
  rw [hl] at e
  cases e
  refine ⟨a1, _, by rw [List.length_drop, hl], by rw [List.length_drop]; omega, fun i hi => ?_⟩
  rw [List.length_drop] at hi
  obtain ⟨b, off, e2, h1, h2, h3⟩ := hcell (n + i) (by omega)
  rcases ha with rfl | ⟨e3, rfl⟩
  · exact ⟨b, off + n, by rw [e2]; simp [addr_add], h1, h2, by rw [Nat.add_assoc, h3, gd_drop]⟩
  · omega
theorem ints_take {sp : Option Addr} {zs : List Int} {l n cap : Nat} (h : Ints w S (.slice sp l cap) zs) (hl : zs.length = l) (hn : n ≤ l) : Ints w S (.slice sp n cap) (zs.take n) := by
  obtain ⟨sp', cap', e, hm, hcell⟩ := h
  rw [hl] at e
  cases e
  have hlen : (zs.take n).length = n := by rw [List.length_take]; omega
  refine ⟨sp, _, by rw [hlen], by rw [hlen]; omega, fun i hi => ?_⟩
  rw [hlen] at hi
  obtain ⟨b, off, e2, h1, h2, h3⟩ := hcell i (by omega)
  exact ⟨b, off, e2, h1, h2, by rw [h3, gd_take hi]⟩
/-- The call answers r; of what there was the buffer at p alone has turned. -/
def Turned (S : Home) (r : Value) (w : World) (p : Nat) (L : List Int) (e : Ending) (w' : World) : Prop := ∃ v', e = .returned r ∧ Wrote (fun k => k = p) w (fun k => k = p) w' ∧ IsB S w' p v' L
set_option maxRecDepth 100000 in
theorem put_full (g : Int) (hl : 32 ≤ L.length) (h : IsB S w p v L) : Calls Try.prog 68 #[.pointer (some ⟨p, 0, none⟩), .int .i64 g] w (Still (.bool false) w) := by
  have c0 := h.c0
  obtain ⟨s, c, rfl, _⟩ := h.slice
  have hl2 : (32 : Int) ≤ (L.length : Int) := by omega
  clear h
  generalize L.length = l at *
  go_enter Try.func68, Try.ntmps68
  go_wp2_with fail
  go_ret
  exact ⟨rfl, rfl⟩
set_option maxRecDepth 100000 in
set_option maxHeartbeats 2000000 in
theorem put_room (g : Int) (hl : L.length < 32) (h : IsB S w p v L) (hp : ¬ S p) (hS : ∀ k, w.heap.size ≤ k → S k) : Calls Try.prog 68 #[.pointer (some ⟨p, 0, none⟩), .int .i64 g] w (Turned S (.bool true) w p (L ++ [g])) := by
  have c0 := h.c0
  have hplt := h.lt
  obtain ⟨sl, cl, el, _⟩ := h.slice
  have hsrc : Hid (∀ W, Below w.heap.size w W → Src Try.prog 1 26 v L.length (cells L) W) := Lib.hid fun W hb => src_of_ints (h.row.below hb)
  have hfin : Hid (∀ (W : World) (v1 : Value), Below w.heap.size w W → Low w.heap.size (fun k => v1.ownBlock = some k) → OffRow W v1 (L ++ [g]) → (∃ s n c, v1 = .slice s n c) ∧ W.cell? ⟨p, 0, none⟩ = some v ∧ W.frozen? ⟨p, 0, none⟩ = false ∧ Hid (Turned S (.bool true) w p (L ++ [g]) (.returned (.bool true)) (W.setCell ⟨p, 0, none⟩ v1))) := Lib.hid fun W v1 hb hlow hr => by
    obtain ⟨s, c, e⟩ := hr.slice
    have h1 := h.below hb
    obtain ⟨k1, k2⟩ := h.lay hp hb (ints_made hr hlow hS) (off_cap hr)
    exact ⟨⟨s, _, c, e⟩, h1.c0, h1.fz, Lib.hid ⟨_, rfl, k1, k2⟩⟩
  have hbA : ([] : List Int).length + L.length ≤ 1000000 := by simp; omega
  have hbB : ([] ++ L : List Int).length + [g].length ≤ 1000000 := by simp; omega
  have hlt : ¬ (32 : Int) ≤ (L.length : Int) := by omega
  rw [el] at c0 hsrc hfin
  have e1 : Hid ((w.alloc (.cells #[] 3)).heap[w.heap.size]? = some (.cells #[] 3 (0, 0))) := Lib.hid (heap_alloc_new _ _)
  have e2 : w.heap.size ≤ (w.alloc (.cells #[] 3)).heap.size := Nat.le_of_lt (lt_new _ _)
  have hb1 : Hid (Below w.heap.size w (w.alloc (.cells #[] 3))) := Lib.hid (below_alloc (Below.refl _ _) _)
  clear h el hl
  go_enter Try.func68, Try.ntmps68
  go_wp2_with (first
    | (at_builtin; refine wpList_append_low rfl (.tmp 17) (.tmp 19) rfl rfl w.heap.size (off_below hr7.out hb78.out) hl7.out hs8 rfl rfl (src_one w7 g) hbB ?_; intro v9 w9 hr9 hl9 hb9; have hk9 := hfin.out w9 v9 (hb7.out.trans (hb8.out.trans hb9)) hl9 hr9; obtain ⟨⟨s9, n9, c9, rfl⟩, f1, f2, hgo⟩ := hk9; clear hr9 hl9 hb9 hfin)
    | (at_builtin; refine wpList_append_low rfl (.tmp 12) (.tmp 16) rfl rfl w.heap.size (off_empty (by exact e1.out)) (low_some (Nat.le_refl _)) (by exact e2) rfl rfl (hsrc.out _ hb1.out) hbA ?_; intro v7 w7 hr7 hl7 hb7; obtain ⟨s7, c7, rfl⟩ := hr7.slice; replace hr7 := Lib.hid hr7; replace hl7 := Lib.hid hl7; replace hb7 := Lib.hid (hb1.out.trans hb7); have hb78 : Hid (Below w7.heap.size w7 (w7.alloc (.cells #[.int .i64 g] 3))) := Lib.hid (below_alloc (Below.refl _ _) _); have hb8 : Hid (Below w.heap.size w7 (w7.alloc (.cells #[.int .i64 g] 3))) := Lib.hid (hb78.out.mono hb7.out.size); have hs8 : w.heap.size ≤ (w7.alloc (.cells #[.int .i64 g] 3)).heap.size := Nat.le_trans hb7.out.size hb78.out.size; clear e2))
  go_ret
  exact hgo.out
set_option maxRecDepth 100000 in
theorem get_none (h : IsB S w p v []) : Calls Try.prog 70 #[.pointer (some ⟨p, 0, none⟩)] w (Still (.tuple #[.int .i64 0, .bool false]) w) := by
  have c0 := h.c0
  obtain ⟨s, c, rfl, _⟩ := h.slice
  simp only [List.length_nil] at c0
  clear h
  go_enter Try.func70, Try.ntmps70
  go_wp2_with fail
  go_ret2
  exact ⟨rfl, rfl⟩
set_option maxRecDepth 100000 in
theorem get_some {n : Nat} (hn : L.length = n + 1) (hs : n ≤ 1000) (h : IsB S w p v L) (hp : ¬ S p) : Calls Try.prog 70 #[.pointer (some ⟨p, 0, none⟩)] w (Turned S (.tuple #[.int .i64 (L.getD n 0), .bool true]) w p (L.take n)) := by
  have c0 := h.c0
  have f0 := h.fz
  obtain ⟨s, c, e, hcap⟩ := h.slice
  obtain ⟨s', c', e', _, hc⟩ := h.row
  obtain ⟨b, off, e2, _, hbl, hcell⟩ := hc n (by omega)
  rw [e] at e'
  obtain ⟨rfl, rfl⟩ : s = s' ∧ c = c' := by injection e' with e1 e2 e3; exact ⟨e1, e3⟩
  subst e2
  have hfin : Hid (Turned S (.tuple #[.int .i64 (L.getD n 0), .bool true]) w p (L.take n) (.returned (.tuple #[.int .i64 (L.getD n 0), .bool true])) (w.setCell ⟨p, 0, none⟩ (.slice (some ⟨b, off, none⟩) n c))) := Lib.hid (by
    have ht := ints_take (n := n) (by rw [← e]; exact h.row) rfl (by omega)
    obtain ⟨k1, k2⟩ := h.lay hp (Below.refl _ _) ht (fun s n c e => by cases e; omega)
    exact ⟨_, rfl, k1, k2⟩)
  rw [e, hn] at c0
  push_cast at c0
  have n0 : (0 : Int) ≤ (n : Int) := by omega
  have n1 : ((n : Int) + 1 == 0) = false := by rw [beq_eq_false_iff_ne]; omega
  have n2 : (n : Int) + 1 - 1 = (n : Int) := by omega
  have n3 : (n : Int) ≤ (c : Int) := by omega
  have n4 : (n : Int) < (n : Int) + 1 := by omega
  clear h hc e hcap
  generalize L.getD n 0 = y at *
  go_enter Try.func70, Try.ntmps70
  go_wp2_with fail
  go_ret2
  exact hfin.out
theorem infoRB : ((Try.prog.info? 86).map (·.size)) = some 1 := by kernel_rfl
theorem req_other (hpq : p ≠ q) (h : IsB S w p v L) (h2 : IsB S w q u M) : (binOp .eql 85 (.pointer (some ⟨q, 0, none⟩)) (.pointer (some ⟨p, 0, none⟩))).run Try.prog w = .ok (.bool false) w := by
  obtain ⟨j, hj, hs⟩ := Option.map_eq_some_iff.1 infoRB
  exact run_eql_ptr_other w Try.underlying85 hj (by omega) (fun e => hpq (congrArg Addr.block e).symm) h2.head h.head
set_option maxRecDepth 100000 in
theorem half_no {n : Nat} (hn : L.length / 2 = n) (hno : 32 < n + M.length) (hs : L.length ≤ 100) (hs2 : M.length ≤ 32) (hpq : p ≠ q) (h : IsB S w p v L) (h2 : IsB S w q u M) : Calls Try.prog 72 #[.pointer (some ⟨p, 0, none⟩), .pointer (some ⟨q, 0, none⟩)] w (Still (.int .i64 0) w) := by
  have he := req_other hpq h h2
  have c0 := h.c0
  have d0 := h2.c0
  obtain ⟨s1, k1, rfl, _⟩ := h.slice
  obtain ⟨s2, k2, rfl, _⟩ := h2.slice
  have e1 : (L.length : Int) / 2 = (n : Int) := by omega
  have g1 : 32 - (M.length : Int) < (n : Int) := by omega
  have l0 : (0 : Int) ≤ (L.length : Int) := by omega
  have l1 : (L.length : Int) ≤ 100 := by omega
  have m0 : (0 : Int) ≤ (M.length : Int) := by omega
  have m1 : (M.length : Int) ≤ 32 := by omega
  clear h h2 hn
  generalize L.length = l at *
  generalize M.length = m at *
  go_enter Try.func72, Try.ntmps72
  go_wp2_with fail
  go_ret
  exact ⟨rfl, rfl⟩
end Rb
end Go.Proofs.Ytclldajbibhcbaa
