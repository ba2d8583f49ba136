/- The document's own Central: 64 rows of numbers in one object, each a plain list that is never written again; what its calls answer and make. -/
import Derived.Test.YtejijddhmckgiaaCenOnce
import Derived.Test.YtejijddhmckgiaaOut
import Derived.Test.YtejijddhmckgiaaPutNew
import Derived.RegionTactic
import Derived.Deep.RegionLaw
import Derived.Deep.RegionWith
import Derived.StillTailTactics
import Derived.BigQuiet
namespace Go.Proofs.Ytejijddhmckgiaa
open Go.RowKit Go.Lib Fx Ho Rw Qu
set_option linter.unusedVariables false
namespace Dc
open Ce (upd upd_same upd_ne delQ putQ begQ begT uns urow srow takeA takeQ takeFA takeFQ anyF anyA anyQ inQ inQ_yes inQ_no inQ_at Apart size_set)
abbrev Qs := Nat → List Int
def CapOk (v : Value) : Prop := ∀ s n c, v = .slice s n c → n ≤ c
/-- A Central of the document's at x; its rows lie in blocks of S. -/
structure IsD (S : Home) (w : World) (x : Nat) (Q : Qs) : Prop where
  head : ∃ A, w.heap[x]? = some (.cells A 60 (0, 0)) ∧ ∀ r, r < 64 → ∃ v, A[r]? = some v ∧ Ints w S v (Q r) ∧ CapOk v
  sx : ¬ S x
def nS (S : Home) (w : World) : Home := fun k => S k ∨ w.heap.size ≤ k
variable {S S' : Home} {w w' w1 W : World} {x r k n : Nat} {Q Q' : Qs} {v u : Value} {H H' : Home} {id i y : Int} {P L : List Int}
namespace IsD
theorem lt (h : IsD S w x Q) : x < w.heap.size := by obtain ⟨A, h1, _⟩ := h.head; exact block_lt h1
theorem fz (h : IsD S w x Q) (j : Nat) : w.frozen? ⟨x, j, none⟩ = false := by obtain ⟨A, h1, _⟩ := h.head; exact frozen_of_row w x j _ _ h1
theorem row (h : IsD S w x Q) (hr : r < 64) : ∃ s c, w.cell? ⟨x, r, none⟩ = some (.slice s (Q r).length c) ∧ (Q r).length ≤ c ∧ Ints w S (.slice s (Q r).length c) (Q r) := by
  obtain ⟨A, h1, h2⟩ := h.head
  obtain ⟨v, h3, h4, h5⟩ := h2 r hr
  obtain ⟨s, c, e, _⟩ := id h4
  subst e
  exact ⟨s, c, cell_of h1 h3, h5 _ _ _ rfl, h4⟩
theorem wrote (h : IsD S w x Q) (ht : Wrote H w H' w') (hx : ¬ H x) (ho : Ho.Off S H) : IsD S w' x Q := by
  obtain ⟨A, h1, h2⟩ := h.head
  refine ⟨⟨A, (ht.block x (block_lt h1) hx).trans h1, fun r hr => ?_⟩, h.sx⟩
  obtain ⟨v, h3, h4, h5⟩ := h2 r hr
  exact ⟨v, h3, h4.wrote ht ho, h5⟩
theorem below (h : IsD S w x Q) (hb : Below w.heap.size w w') : IsD S w' x Q := h.wrote (H := fun _ => False) (Wrote.of_below hb) (fun h => h) (fun _ _ h => h)
theorem wider (h : IsD S w x Q) (hs : ∀ k, S k → k < w.heap.size → S' k) (hx : ¬ S' x) : IsD S' w x Q := by
  obtain ⟨A, h1, h2⟩ := h.head
  refine ⟨⟨A, h1, fun r hr => ?_⟩, hx⟩
  obtain ⟨v, h3, h4, h5⟩ := h2 r hr
  exact ⟨v, h3, h4.wider hs, h5⟩
/-- A row is another one. -/
theorem lay (h : IsD S w x Q) (hr : r < 64) {v1 : Value} (hb : Below w.heap.size w w1) (hs : ∀ k, S k → S' k) (hx : ¬ S' x) (hv : Ints w1 S' v1 L) (hc : CapOk v1) :
    Wrote (fun k => k = x) w (fun k => k = x) (w1.setCell ⟨x, r, none⟩ v1) ∧ IsD S' (w1.setCell ⟨x, r, none⟩ v1) x (upd Q r L) := by
  have h1 := (h.below hb).wider (fun k hk _ => hs k hk) hx
  have hw : Wrote (fun k => k = x) w1 (fun k => k = x) (w1.setCell ⟨x, r, none⟩ v1) := wrote_setCell (a := ⟨x, r, none⟩) (u := v1) rfl rfl rfl rfl rfl
  refine ⟨(Wrote.of_below hb).trans hw, ?_⟩
  obtain ⟨A, g1, g2⟩ := h1.head
  have ho : Ho.Off S' (fun k => k = x) := fun k hk e => hx (e ▸ hk)
  refine ⟨⟨A.setIfInBounds r v1, heap_setCell_same _ x r _ _ _ g1, fun s hs => ?_⟩, hx⟩
  by_cases e : s = r
  · subst e
    obtain ⟨v0, g3, _⟩ := g2 s hs
    exact ⟨v1, Ce.arr_same g3, by rw [upd_same]; exact hv.wrote hw ho, hc⟩
  · obtain ⟨v0, g3, g4, g5⟩ := g2 s hs
    exact ⟨v0, by rw [Ce.arr_ne (fun e' => e e'.symm)]; exact g3, by rw [upd_ne _ _ e]; exact g4.wrote hw ho, g5⟩
end IsD
theorem nS_x (h : IsD S w x Q) : ¬ nS S w x := fun h2 => h2.elim h.sx (fun h3 => by have := h.lt; omega)
theorem upd_id {Q : Qs} {r : Nat} {L : List Int} (e : Q r = L) : upd Q r L = Q := by
  funext s
  by_cases h : s = r
  · subst h; rw [upd_same, e]
  · rw [upd_ne _ _ h]
/-- The call answers v; of what there was x alone has turned. -/
def DS (S : Home) (v : Value) (w : World) (x : Nat) (Q' : Qs) (e : Ending) (w' : World) : Prop := e = .returned v ∧ Wrote (fun k => k = x) w (fun k => k = x) w' ∧ IsD (nS S w) w' x Q'
theorem ds_still {e : Ending} (h : IsD S w x Q) (hs : Still v w e w') : DS S v w x Q e w' := by
  obtain ⟨he, hw⟩ := hs
  subst hw
  exact ⟨he, Wrote.refl _ _, h.wider (fun k hk _ => .inl hk) (nS_x h)⟩
theorem ints_take {sp : Option Addr} {zs : List Int} {l n cap : Nat} (h : Ints w S (.slice sp l cap) zs) (hl : zs.length = l) (hn : n ≤ l) : Ints w S (.slice sp n cap) (zs.take n) := by
  obtain ⟨sp', cap', e, hm, hcell⟩ := h
  rw [hl] at e
  cases e
  have hlen : (zs.take n).length = n := by rw [List.length_take]; omega
  refine ⟨sp, _, by rw [hlen], by rw [hlen]; omega, fun i hi => ?_⟩
  rw [hlen] at hi
  obtain ⟨b, off, e2, h1, h2, h3⟩ := hcell i (by omega)
  exact ⟨b, off, e2, h1, h2, by rw [h3, gd_take hi]⟩
theorem ints_drop {sp a1 : Option Addr} {zs : List Int} {l n cap : Nat} (h : Ints w S (.slice sp l cap) zs) (hl : zs.length = l) (hn : n ≤ l) (ha : a1 = sp.map (·.add n) ∨ cap = n ∧ a1 = sp) (hc : l ≤ cap) : Ints w S (.slice a1 (l - n) (cap - n)) (zs.drop n) := by
  obtain ⟨sp', cap', e, hm, hcell⟩ := h
  rw [hl] at e
  cases e
  refine ⟨a1, _, by rw [List.length_drop, hl], by rw [List.length_drop]; omega, fun i hi => ?_⟩
  rw [List.length_drop] at hi
  obtain ⟨b, off, e2, h1, h2, h3⟩ := hcell (n + i) (by omega)
  rcases ha with rfl | ⟨e3, rfl⟩
  · exact ⟨b, off + n, by rw [e2]; simp [addr_add], h1, h2, by rw [Nat.add_assoc, h3, gd_drop]⟩
  · omega
def lastA (L : List Int) : Int × Bool := match L.getLast? with
  | some y => (y, true)
  | none => (0, false)
set_option maxRecDepth 100000 in
theorem last_no (h : IsD S w x Q) (hi : i < 0 ∨ 16 ≤ i) (J : Int) : Calls Try.prog 65 #[.pointer (some ⟨x, 0, none⟩), .int .i64 i, .int .i64 J] w (DS S (.tuple #[.int .i64 0, .bool false]) w x Q) := by
  have hd := Lib.hid (ds_still (v := .tuple #[.int .i64 0, .bool false]) h ⟨rfl, rfl⟩)
  clear h
  by_cases h0 : i < 0
  · go_enter Try.func65, Try.ntmps65
    go_wp2_with fail
    go_ret2
    exact hd.out
  · have h1 : 15 < i := by omega
    go_enter Try.func65, Try.ntmps65
    go_wp2_with fail
    go_ret2
    exact hd.out
set_option maxRecDepth 100000 in
set_option maxHeartbeats 1000000 in
theorem last_any (h : IsD S w x Q) (hk : k < 16) {j : Nat} (hj : j < 4) {J : Int} (hJ : J = (j : Int)) (hs : (Q (k * 4 + j)).length ≤ 100000) : Calls Try.prog 65 #[.pointer (some ⟨x, 0, none⟩), .int .i64 k, .int .i64 J] w (DS S (.tuple #[.int .i64 (lastA (Q (k * 4 + j))).1, .bool (lastA (Q (k * 4 + j))).2]) w x (upd Q (k * 4 + j) (Q (k * 4 + j)).dropLast)) := by
  have hr : k * 4 + j < 64 := by omega
  obtain ⟨s, c, c0, hcap, hI⟩ := h.row hr
  have f0 := h.fz (k * 4 + j)
  have k0 : (0 : Int) ≤ (k : Int) := by omega
  have k1 : ¬ (k : Int) < 0 := by omega
  have k2 : ¬ (15 : Int) < (k : Int) := by omega
  have k3 : (k : Int) < 16 := by omega
  have j0 : (0 : Int) ≤ (j : Int) := by omega
  have j1 : (j : Int) < 4 := by omega
  subst hJ
  rcases List.eq_nil_or_concat (Q (k * 4 + j)) with he | ⟨P, y, he⟩
  · have hd := ds_still (v := .tuple #[.int .i64 0, .bool false]) h ⟨rfl, rfl⟩
    have hd2 : Hid (DS S (.tuple #[.int .i64 (lastA (Q (k * 4 + j))).1, .bool (lastA (Q (k * 4 + j))).2]) w x (upd Q (k * 4 + j) (Q (k * 4 + j)).dropLast) (.returned (.tuple #[.int .i64 0, .bool false])) w) := Lib.hid (by
      rw [he]
      show DS S (.tuple #[.int .i64 0, .bool false]) w x (upd Q (k * 4 + j) []) _ w
      rw [upd_id he]; exact hd)
    rw [he] at c0
    replace c0 : w.cell? ⟨x, k * 4 + j, none⟩ = some (.slice s 0 c) := c0
    clear h hd hI hcap he hs
    go_enter Try.func65, Try.ntmps65
    go_wp2_with fail
    go_ret2
    exact hd2.out
  · rw [List.concat_eq_append] at he
    obtain ⟨n, hn⟩ : ∃ n, P.length = n := ⟨_, rfl⟩
    have hlen : (Q (k * 4 + j)).length = n + 1 := by rw [he, List.length_append, List.length_singleton, hn]
    have hla : lastA (Q (k * 4 + j)) = (y, true) := by
      unfold lastA
      have e2 : (Q (k * 4 + j)).getLast? = some y := by rw [he]; simp
      rw [e2]
    have hdl : (Q (k * 4 + j)).dropLast = P := by rw [he]; exact List.dropLast_concat
    rw [hla, hdl]
    obtain ⟨sp', cap', e, _, hc⟩ := id hI
    obtain ⟨b, off, rfl, _, hbl, hcell⟩ := hc n (by omega)
    cases e
    have hyc : w.cell? ⟨b, off + n, none⟩ = some (.int .i64 y) := by
      rw [hcell, he, gd_right (by omega), hn, Nat.sub_self]; rfl
    have hfin : Hid (∀ W, W.heap = (w.setCell ⟨x, k * 4 + j, none⟩ (.slice (some ⟨b, off, none⟩) n c)).heap → W.os = w.os → W.tape = w.tape → W.output = w.output → DS S (.tuple #[.int .i64 y, .bool true]) w x (upd Q (k * 4 + j) P) (.returned (.tuple #[.int .i64 y, .bool true])) W) := Lib.hid fun W hh e1 e2 e3 => by
      have ht := ints_take (n := n) hI rfl (by omega)
      rw [he, show (P ++ [y]).take n = P by rw [← hn, List.take_left]] at ht
      obtain ⟨g1, g2⟩ := h.lay (S' := nS S w) hr (Below.refl _ _) (fun k hk => .inl hk) (nS_x h) (ht.wider (fun k hk _ => .inl hk)) (fun s n c e => by cases e; omega)
      have hb : Below (w.setCell ⟨x, k * 4 + j, none⟩ (.slice (some ⟨b, off, none⟩) n c)).heap.size (w.setCell ⟨x, k * 4 + j, none⟩ (.slice (some ⟨b, off, none⟩) n c)) W := ⟨e1, e2, e3, by rw [hh]; exact Nat.le_refl _, fun k _ => by rw [hh]⟩
      exact ⟨rfl, g1.trans (Wrote.of_below hb), g2.below hb⟩
    rw [hlen] at c0 hcap
    push_cast at c0
    have hxb : ¬ x = b := fun e => by subst e; exact h.sx (by obtain ⟨b', off', e2, hS, _⟩ := hc n (by omega); cases e2; exact hS)
    have hbx : ¬ b = x := fun e => hxb e.symm
    have n0 : (0 : Int) ≤ (n : Int) := by omega
    have n1 : ((n : Int) + 1 == 0) = false := by rw [beq_eq_false_iff_ne]; omega
    have n2 : (n : Int) + 1 - 1 = (n : Int) := by omega
    have n3 : (n : Int) ≤ (c : Int) := by omega
    have n4 : (n : Int) < (n : Int) + 1 := by omega
    have n5 : (n : Int) ≤ 100000 := by omega
    clear h hI hc hcell hla hdl hlen he hs
    go_enter Try.func65, Try.ntmps65
    go_wp2_with fail
    go_region
    all_goals
      go_wp2_with fail
      go_ret2
      exact hfin.out _ rfl rfl rfl rfl
end Dc
end Go.Proofs.Ytejijddhmckgiaa
