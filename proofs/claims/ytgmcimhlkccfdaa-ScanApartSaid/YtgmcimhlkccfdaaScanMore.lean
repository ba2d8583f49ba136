/- A scan that a statement made; the statements' own question after a few answers; All of nothing. -/
import Derived.Test.YtgmcimhlkccfdaaScanStep
namespace Go.Proofs.Ytgmcimhlkccfdaa
open Go.RowKit Go.Lib Fx Ho Qu Rw
set_option linter.unusedVariables false
namespace Sc
variable {w w' : World} {p : Nat} {ad : Int} {H H' : Home}
/-- A function value that loads what hangs on nothing but the slot's number. -/
theorem load_pure {F : Nat} {C : Array Value} {S : Nat → Int} {lo a b : Nat} (hc : ∀ (i : Nat) W, i ≤ 100000 → Calls Try.prog F (#[.int .i64 ad, .int .i64 i] ++ C) W (Still (.int .i64 (S i)) W)) (hb : a + b ≤ 100000)
    (he : ∀ (args : Array Value) (W : World), Sem.run Try.prog (callFunc F args) W = .ok (.enter F args) W) : Load p F C ad S (fun _ _ => True) (fun _ => False) lo a b :=
  ⟨fun i W h1 h2 _ => (hc i W (by omega)).mono fun e w' ⟨h3, h4⟩ => ⟨h3, trivial, by rw [h4]; exact Wrote.refl _ _⟩, fun _ _ _ _ _ => trivial, fun k h => h.elim, he⟩
/-- A scan that a statement made, and all else as it was. -/
structure Ss (W0 w : World) (p : Nat) (ad : Int) (t n : Nat) : Prop where
  s : IsScan w p ad t n
  lo : W0.heap.size ≤ p
  bel : Below W0.heap.size W0 w
namespace Ss
variable {W0 : World} {t n u : Nat}
theorem turns (h : Ss W0 w p ad t n) (ht : Wrote (fun k => k = p) w (fun k => k = p) w') (hr : IsScan w' p ad u n) : Ss W0 w' p ad u n :=
  ⟨hr, h.lo, ht.below (fun k hk => by rw [show k = p from hk]; exact h.lo) h.bel⟩
theorem below (h : Ss W0 w p ad t n) (hb : Below w.heap.size w w') : Ss W0 w' p ad t n := ⟨h.s.below hb, h.lo, h.bel.trans (hb.mono h.bel.size)⟩
end Ss
section
variable {W0 : World} {a n c : Nat}
theorem ss_new (n : Nat) {m : Int} (hm : (if 0 > m then 0 else m) = (n : Int)) (w : World) : Calls Try.prog 38 #[.int .i64 ad, .int .i64 m] w fun e w' => e = .returned (.pointer (some ⟨w.heap.size, 0, none⟩)) ∧ Ss w w' w.heap.size ad 0 n :=
  (new_any n hm w).mono fun _ _ ⟨he, hb, hr⟩ => ⟨he, hr, Nat.le_refl _, hb⟩
theorem ss_step {F : Nat} {C : Array Value} {S : Nat → Int} (hc : ∀ (i : Nat) W, i ≤ 100000 → Calls Try.prog F (#[.int .i64 ad, .int .i64 i] ++ C) W (Still (.int .i64 (S i)) W))
    (he : ∀ (args : Array Value) (W : World), Sem.run Try.prog (callFunc F args) W = .ok (.enter F args) W) (h : Ss W0 w p ad a n) (hm : min (n - a) 16 = c) (hn : n ≤ 50000) :
    Calls Try.prog 41 #[.pointer (some ⟨p, 0, none⟩), .func (.func F) #[] C] w fun e w' => ∃ v, e = .returned v ∧ OffRow w' v (some0 S a c) ∧ Low w.heap.size (fun k => v.ownBlock = some k) ∧ Ss W0 w' p ad (a + c) n ∧ Wrote (fun k => k = p) w (fun k => k = p) w' := by
  have hle := h.s.le
  refine (step_any (load_pure (lo := w.heap.size) hc (by omega) he) h.s hm (Nat.le_refl _) trivial (fun h => h) hn).mono fun e w' ⟨v, h1, h2, h3, _, h4, h5⟩ => ?_
  have h6 : Wrote (fun k => k = p) w (fun k => k = p) w' := ⟨h5.os, h5.tape, h5.output, h5.size, fun k hk hn => h5.block k hk (fun e => e.elim (fun e => e.elim) hn), fun k hk => Or.inl hk⟩
  exact ⟨v, h1, h2, h3, h.turns h6 h4, h6⟩
end
set_option maxRecDepth 100000 in
theorem sum_any (i : Nat) (W : World) (hi : i ≤ 100000) : Calls Try.prog 73 (#[.int .i64 64, .int .i64 i] ++ #[]) W (Still (.int .i64 (64 + (i : Int))) W) := by
  have i0 : (0 : Int) ≤ (i : Int) := by omega
  have i1 : (i : Int) ≤ 100000 := by omega
  show Calls _ _ #[.int .i64 64, .int .i64 i] _ _
  go_enter Try.func73, Try.ntmps73
  go_wp2_with fail
  go_ret
  exact ⟨rfl, rfl⟩
set_option maxRecDepth 100000 in
theorem named_none {f : Value} (w : World) : Calls Try.prog 74 #[.int .i64 0, .int .i64 (-1), f] w (Still (.slice none 0 0) w) := by
  go_enter Try.func74, Try.ntmps74
  go_wp2_with fail
  refine wp_loop_rounds 1 ?_
  rw [rounds_succ]
  go_wp2_with fail
  go_ret
  exact ⟨rfl, rfl⟩
set_option maxRecDepth 100000 in
theorem all_none {F : Nat} {C : Array Value} (w : World) : Calls Try.prog 43 #[.int .i64 (-1), .func (.func F) #[] C] w (Still (.slice none 0 0) w) := by
  have hq : ∀ W : World, Sem.run Try.prog (binOp BinOp.eql 64 (.func (.func F) #[] C) Value.nilFunc) W = .ok (.bool false) W := fun W => by rfl
  have cn := named_none (f := .func (.func F) #[] C) w
  go_enter Try.func43, Try.ntmps43
  go_wp2_with fail
  with_reducible refine Calls.mono cn ?_
  rintro e w1 ⟨rfl, rfl⟩
  go_wp2_with fail
  go_ret
  exact ⟨rfl, rfl⟩
/-- The numbers that the statements' own question loads. -/
theorem sum16 : some0 (fun i => 64 + (i : Int)) 0 16 = [64, 65, 66, 67, 68, 69, 70, 71, 72, 73, 74, 75, 76, 77, 78, 79] := by decide
theorem sum4 : some0 (fun i => 64 + (i : Int)) 16 4 = [80, 81, 82, 83] := by decide
theorem enter_sum (args : Array Value) (W : World) : Sem.run Try.prog (callFunc 73 args) W = .ok (.enter 73 args) W := by rfl
theorem row_at {v : Value} {zs : List Int} {i : Nat} {x : Int} {n : Nat} (h : OffRow w v zs) (hi : zs.getD i 0 = x) (hl : zs.length = n) (hin : i < n) : ∃ b off cap, v = .slice (some ⟨b, off, none⟩) n cap ∧ w.cell? ⟨b, off + i, none⟩ = some (.int .i64 x) := by
  obtain ⟨sp, cap, e, _, hc⟩ := h.ints
  obtain ⟨b, off, e2, _, _, k⟩ := hc i (by omega)
  exact ⟨b, off, cap, by rw [e, e2, hl], by rw [← hi]; exact k⟩
set_option maxRecDepth 100000 in
set_option maxHeartbeats 2000000 in
theorem told_any (w : World) : Calls Try.prog 37 #[] w fun e w' => e = .returned (.bool true) ∧ Below w.heap.size w w' := by
  have cn := ss_new (ad := 64) (m := 20) 20 rfl w
  obtain ⟨p, hp⟩ : ∃ p, w.heap.size = p := ⟨_, rfl⟩
  rw [hp] at cn
  clear hp
  go_enter Try.func37, Try.ntmps37
  go_wp2_with fail
  with_reducible refine Calls.mono (cn) ?_
  rintro e w1 ⟨rfl, hs1⟩
  have cs := ss_step sum_any enter_sum hs1 (c := 16) rfl (by omega)
  rw [sum16] at cs
  clear cn
  go_wp2_with fail
  with_reducible refine Calls.mono (cs) ?_
  rintro e w2 ⟨va, rfl, hoa, hla, hs2, _⟩
  have hp2 : p < w1.heap.size := hs1.s.lt
  clear hs1 cs
  have cl : Calls Try.prog 42 #[.pointer (some ⟨p, 0, none⟩)] w2 (Ans (.int .i64 4) w2) := left_any (by omega) hs2.s
  have hnx : Hid (∀ k, Ss w (w2.drewN k) p 64 16 20 ∧ OffRow (w2.drewN k) va [64, 65, 66, 67, 68, 69, 70, 71, 72, 73, 74, 75, 76, 77, 78, 79]) := fun k => ⟨hs2.below (below_drewN (Below.refl _ _) k), off_below hoa (below_drewN (Below.refl _ _) k)⟩
  obtain ⟨spa, capa, rfl⟩ := hoa.slice
  replace hla := Lib.hid hla
  clear hs2 hoa
  go_wp2_with fail
  with_reducible refine Calls.mono (cl) ?_
  rintro e w3 ⟨rfl, k, rfl⟩
  obtain ⟨hs3, hoa⟩ := hnx.out k
  clear cl hnx
  generalize w2.drewN k = w3 at *
  have cs := ss_step sum_any enter_sum hs3 (c := 4) rfl (by omega)
  rw [sum4] at cs
  go_wp2_with fail
  with_reducible refine Calls.mono (cs) ?_
  rintro e w4 ⟨vc, rfl, hoc, hlc, hs4, ht4⟩
  have hoa4 := hoa.wrote ht4 (fun k hk e => by have := hla.out k hk; have e : k = p := e; omega)
  obtain ⟨ba, offa, cpa, ea, ka⟩ := row_at (i := 0) (x := 64) (n := 16) hoa4 rfl rfl (by omega)
  obtain ⟨bc, offc, cpc, rfl, kc⟩ := row_at (i := 3) (x := 83) (n := 4) hoc rfl rfl (by omega)
  have ea : Value.slice spa 16 capa = .slice (some ⟨ba, offa, none⟩) 16 cpa := ea
  obtain ⟨rfl, rfl⟩ : spa = some ⟨ba, offa, none⟩ ∧ capa = cpa := by injection ea with e1 e2 e3; exact ⟨e1, e3⟩
  rw [Nat.add_zero] at ka
  have cd : Calls Try.prog 40 #[.pointer (some ⟨p, 0, none⟩)] w4 (Ans (.bool true) w4) := done_any (by omega) hs4.s
  have hnx : Hid (∀ k, Ss w (w4.drewN k) p 64 20 20) := fun k => hs4.below (below_drewN (Below.refl _ _) k)
  clear cs hs3 hoa hoa4 hoc hlc hla ht4 hs4 ea
  go_wp2_with fail
  with_reducible refine Calls.mono (cd) ?_
  rintro e w5 ⟨rfl, k, rfl⟩
  have hs5 := hnx.out k
  clear cd hnx ka kc
  generalize w4.drewN k = w5 at *
  have cs := ss_step sum_any enter_sum hs5 (c := 0) rfl (by omega)
  go_wp2_with fail
  with_reducible refine Calls.mono (cs) ?_
  rintro e w6 ⟨vd, rfl, hod, _, hs6, _⟩
  obtain ⟨spd, capd, rfl⟩ := off_slice hod (n := 0) rfl
  have hfin := Lib.hid hs6.bel
  clear cs hod hs6 hs5
  go_wp2_with fail
  go_ret
  exact ⟨rfl, hfin.out⟩
end Sc
end Go.Proofs.Ytgmcimhlkccfdaa
