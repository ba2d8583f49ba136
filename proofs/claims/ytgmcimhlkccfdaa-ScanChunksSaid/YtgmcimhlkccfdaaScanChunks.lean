/- An object is scanned chunk by chunk, each slot once, rising; what is not 0 is told in order; all chunks together are all: any address, any slots (at most 300). No condition. -/
import Derived.Test.YtgmcimhlkccfdaaScanMore
import Derived.WalkKit
import Derived.ProofKit
import Derived.OpenShut
import Derived.Deep.RegionHeld3
import Derived.Deep.RegionWith
import Derived.Deep.Cut
import Derived.Deep.CutBlock
import Derived.Deep.CutRange
import Derived.Deep.DeepCutAuto
import Derived.RegionTactic
namespace Go.Proofs.Ytgmcimhlkccfdaa.scanChunks
open Go.ChangeShapes Go.WideShapes Go.ChangeAt Go.WideElems Go.RowKit Go.Lib Fx Ho Sc Rw Qu
set_option linter.unusedVariables false

theorem own : ownKnob Try.prog.godebug = none := by kernel_rfl

/-- What the statement's own load has captured: the address, the slots, which slot is next, and that all was well. -/
structure Bx (W : World) (ba bs bn bo : Nat) (ad : Int) (sp : Option Addr) (cap : Nat) (z : List Int) (i : Nat) : Prop where
  a : W.heap[ba]? = some (.cells #[.int .i64 ad] 3 (0, 0))
  s : W.heap[bs]? = some (.cells #[.slice sp z.length cap] 26 (0, 0))
  n : W.heap[bn]? = some (.cells #[.int .i64 i] 3 (0, 0))
  o : W.heap[bo]? = some (.cells #[.bool true] 4 (0, 0))
  z : Ints W (fun k => k < ba) (.slice sp z.length cap) z
theorem Bx.wrote {W W' : World} {ba bs bn bo : Nat} {ad : Int} {sp : Option Addr} {cap : Nat} {z : List Int} {i : Nat} {H H' : Home} (h : Bx W ba bs bn bo ad sp cap z i) (ht : Wrote H W H' W') (h1 : ¬ H ba) (h2 : ¬ H bs) (h3 : ¬ H bn) (h4 : ¬ H bo) (h5 : ∀ k, k < ba → ¬ H k) : Bx W' ba bs bn bo ad sp cap z i :=
  ⟨by rw [ht.block _ (block_lt h.a) h1]; exact h.a, by rw [ht.block _ (block_lt h.s) h2]; exact h.s, by rw [ht.block _ (block_lt h.n) h3]; exact h.n, by rw [ht.block _ (block_lt h.o) h4]; exact h.o, h.z.wrote ht h5⟩
set_option maxRecDepth 100000 in
set_option maxHeartbeats 1000000 in
theorem load_any {W : World} {ba bs bn bo : Nat} {ad : Int} {sp : Option Addr} {cap : Nat} {z : List Int} {i : Nat} (h : Bx W ba bs bn bo ad sp cap z i) (hi : i < z.length) (hz : z.length ≤ 100000) (n1 : ba < bs) (n2 : bs < bn) (n3 : bn < bo) :
    Calls Try.prog 39 (#[.int .i64 ad, .int .i64 i] ++ #[.pointer (some ⟨bo, 0, none⟩), .pointer (some ⟨ba, 0, none⟩), .pointer (some ⟨bn, 0, none⟩), .pointer (some ⟨bs, 0, none⟩)]) W fun e w' => e = .returned (.int .i64 (z.getD i 0)) ∧ Bx w' ba bs bn bo ad sp cap z (i + 1) ∧ Wrote (fun k => k = bn ∨ k = bo) W (fun k => k = bn ∨ k = bo) w' := by
  show Calls _ _ #[.int .i64 ad, .int .i64 i, .pointer (some ⟨bo, 0, none⟩), .pointer (some ⟨ba, 0, none⟩), .pointer (some ⟨bn, 0, none⟩), .pointer (some ⟨bs, 0, none⟩)] _ _
  have ca : W.cell? ⟨ba, 0, none⟩ = some (.int .i64 ad) := cell_of h.a rfl
  have cs : W.cell? ⟨bs, 0, none⟩ = some (.slice sp z.length cap) := cell_of h.s rfl
  have cn : W.cell? ⟨bn, 0, none⟩ = some (.int .i64 i) := cell_of h.n rfl
  have co : W.cell? ⟨bo, 0, none⟩ = some (.bool true) := cell_of h.o rfl
  have fn := frozen_of_row W bn 0 _ _ h.n
  have fo := frozen_of_row W bo 0 _ _ h.o
  obtain ⟨sp', cap', e, _, hc⟩ := h.z
  obtain ⟨rfl, rfl⟩ : sp = sp' ∧ cap = cap' := by injection e with e1 e2 e3; exact ⟨e1, e3⟩
  obtain ⟨b, off, rfl, hb, _, k1⟩ := hc i hi
  have hfin : Hid (∀ W', W'.heap = ((W.setCell ⟨bo, 0, none⟩ (.bool true)).setCell ⟨bn, 0, none⟩ (.int .i64 ((i : Int) + 1))).heap → W'.os = W.os → W'.tape = W.tape → W'.output = W.output → Bx W' ba bs bn bo ad (some ⟨b, off, none⟩) cap z (i + 1) ∧ Wrote (fun k => k = bn ∨ k = bo) W (fun k => k = bn ∨ k = bo) W') := fun W' a1 a2 a3 a4 => by
    have hw1 : Wrote (fun k => k = bn ∨ k = bo) W (fun k => k = bn ∨ k = bo) (W.setCell ⟨bo, 0, none⟩ (.bool true)) := wrote_setCell (H := fun k => k = bn ∨ k = bo) rfl rfl rfl rfl (Or.inr rfl)
    have hw2 : Wrote (fun k => k = bn ∨ k = bo) (W.setCell ⟨bo, 0, none⟩ (.bool true)) (fun k => k = bn ∨ k = bo) W' := wrote_setCell (H := fun k => k = bn ∨ k = bo) (a := ⟨bn, 0, none⟩) (u := .int .i64 ((i : Int) + 1)) a1 a2 a3 a4 (Or.inl rfl)
    have hw := hw1.trans hw2
    refine ⟨⟨by rw [hw.block _ (block_lt h.a) (by omega)]; exact h.a, by rw [hw.block _ (block_lt h.s) (by omega)]; exact h.s, ?_, ?_, h.z.wrote hw (fun k (hk : k < ba) (e : k = bn ∨ k = bo) => by omega)⟩, hw⟩
    · have hwo : (W.setCell ⟨bo, 0, none⟩ (.bool true)).heap[bn]? = some (.cells #[.int .i64 i] 3 (0, 0)) := (Below.heap_setCell W ⟨bo, 0, none⟩ _ bn (by show bn ≠ bo; omega)).trans h.n
      rw [a1, heap_setCell_same _ bn 0 _ _ _ hwo]; rfl
    · have hwo : (W.setCell ⟨bo, 0, none⟩ (.bool true)).heap[bo]? = some (.cells #[.bool true] 4 (0, 0)) := by rw [heap_setCell_same _ bo 0 _ _ _ h.o]; rfl
      rw [a1]; exact (Below.heap_setCell _ ⟨bn, 0, none⟩ _ bo (by show bo ≠ bn; omega)).trans hwo
  have i1 : (i : Int) < (z.length : Int) := by omega
  have i0 : (0 : Int) ≤ (i : Int) := by omega
  have i3 : ¬ ((i : Int) < 0) := by omega
  have i4 : (i : Int) ≤ 100000 := by omega
  have m1 : b ≠ bo := by omega
  have m2 : b ≠ bn := by omega
  have m3 : bn ≠ bo := by omega
  have m4 : bo ≠ bn := by omega
  have m5 : ba ≠ bo := by omega
  have m6 : bs ≠ bo := by omega
  have m7 : bs ≠ bn := by omega
  have m8 : ba ≠ bn := by omega
  have q1 : bo ≠ ba := by omega
  have q2 : bo ≠ bs := by omega
  have q3 : bn ≠ bs := by omega
  have q4 : bo ≠ b := by omega
  have q5 : bn ≠ b := by omega
  clear h hc e
  generalize z.getD i 0 = x at *
  generalize z.length = l at *
  go_enter Try.func39, Try.ntmps39
  go_wp2_with fail
  go_ret
  exact ⟨rfl, hfin.out _ rfl rfl rfl rfl⟩
theorem enter_load (args : Array Value) (W : World) : Sem.run Try.prog (callFunc 39 args) W = .ok (.enter 39 args) W := by rfl
theorem enter_at (args : Array Value) (W : World) : Sem.run Try.prog (callFunc 44 args) W = .ok (.enter 44 args) W := by rfl
set_option maxRecDepth 100000 in
theorem at_any {W : World} {ba bs bn bo : Nat} {ad : Int} {sp : Option Addr} {cap : Nat} {z : List Int} {i q : Nat} (h : Bx W ba bs bn bo ad sp cap z q) (hi : i < z.length) :
    Calls Try.prog 44 (#[.int .i64 i] ++ #[.pointer (some ⟨bs, 0, none⟩)]) W (Still (.int .i64 (z.getD i 0)) W) := by
  show Calls _ _ #[.int .i64 i, .pointer (some ⟨bs, 0, none⟩)] _ _
  have cs : W.cell? ⟨bs, 0, none⟩ = some (.slice sp z.length cap) := cell_of h.s rfl
  obtain ⟨sp', cap', e, hm, hc⟩ := h.z
  obtain ⟨rfl, rfl⟩ : sp = sp' ∧ cap = cap' := by injection e with e1 e2 e3; exact ⟨e1, e3⟩
  obtain ⟨b, off, rfl, hb, _, k1⟩ := hc i hi
  have i1 : (i : Int) < (z.length : Int) := by omega
  have i0 : (0 : Int) ≤ (i : Int) := by omega
  clear h hc e
  generalize z.getD i 0 = x at *
  generalize z.length = l at *
  go_enter Try.func44, Try.ntmps44
  go_wp2_with fail
  go_ret
  exact ⟨rfl, rfl⟩
theorem some0_add (S : Nat → Int) (a : Nat) : ∀ b c, some0 S a b ++ some0 S (a + b) c = some0 S a (b + c)
  | b, 0 => by simp [some0]
  | b, c + 1 => by
    have h := some0_add S a b c
    show some0 S a b ++ some0 S (a + b) (c + 1) = some0 S a (b + c + 1)
    unfold some0
    rw [← h, show a + b + c = a + (b + c) by omega]
    by_cases e : S (a + (b + c)) = 0
    · rw [if_pos e, if_pos e]; cases b <;> rfl
    · rw [if_neg e, if_neg e, ← List.append_assoc]; cases b <;> rfl
theorem some0_in (S : Nat → Int) (a : Nat) {j c : Nat} (hj : j < c) (h : S (a + j) ≠ 0) : (some0 S a j).length < (some0 S a c).length ∧ (some0 S a c).getD (some0 S a j).length 0 = S (a + j) := by
  obtain ⟨d, rfl⟩ : ∃ d, c = j + 1 + d := ⟨c - (j + 1), by omega⟩
  have e : some0 S a (j + 1) = some0 S a j ++ [S (a + j)] := by
    show (if _ then _ else _) = _
    rw [if_neg h]
  rw [← some0_add S a (j + 1) d, e]
  refine ⟨by simp, ?_⟩
  rw [gd_left (by simp), gd_right (Nat.le_refl _), Nat.sub_self]; rfl
set_option maxRecDepth 100000 in
set_option maxHeartbeats 4000000 in
theorem walk (a0 : Int) (v1 : Value) (z1 : List Int) (w : World) (w0 : (Lit.int .i64 a0).wf = true) (h1 : Ints w (fun k => k < w.heap.size) v1 z1) :
    Calls Try.prog 9 #[.int .i64 a0, v1] w fun e w' => e = .returned (.bool true) ∧ Below w.heap.size w w' := by
  have ct := fun w => Sc.told_any w
  obtain ⟨sp, cap, rfl, hmx, hc⟩ := h1
  obtain ⟨n, hn⟩ : ∃ n, z1.length = n := ⟨_, rfl⟩
  have hzI : Hid (Ints w (fun k => k < w.heap.size) (.slice sp z1.length cap) z1) := ⟨sp, cap, rfl, hmx, hc⟩
  rw [hn] at hmx ⊢
  clear hc
  have hn0 := Lib.hid hn
  clear hn
  obtain ⟨w0, hw0⟩ : ∃ w0, w0 = (w.alloc (.cells #[.int .i64 a0] 3)).alloc (.cells #[.slice sp n cap] 26) := ⟨_, rfl⟩
  have hb0 : Below w.heap.size w w0 := by rw [hw0]; exact below_then (below_alloc (Below.refl _ _) _) (below_alloc (Below.refl _ _) _)
  have hz0 : w0.heap.size = w.heap.size + 2 := by rw [hw0]; show ((w.heap.push _).push _).size = _; rw [Array.size_push, Array.size_push]
  have ka : w0.heap[w.heap.size]? = some (.cells #[.int .i64 a0] 3 (0, 0)) := by
    rw [hw0]; exact (heap_alloc_old _ _ (by show _ < (w.heap.push _).size; rw [Array.size_push]; omega)).trans (heap_alloc_new _ _)
  have ks : w0.heap[w.heap.size + 1]? = some (.cells #[.slice sp n cap] 26 (0, 0)) := by rw [hw0]; exact heap_alloc2_new _ _ _
  have hb0h := Lib.hid hb0
  by_cases hgt : 300 < n
  · have g1 : (300 : Int) < (n : Int) := by omega
    have ct0 := ct w0
    have hfin : Hid (∀ w', Below w0.heap.size w0 w' → Below w.heap.size w w') := fun w' h => hb0h.out.trans (h.mono (by omega))
    clear ka ks hz0 hb0
    subst hw0
    go_enter Try.func9, Try.ntmps9
    go_wp2_with fail
    with_reducible refine Calls.mono (ct0) ?_
    rintro e w1 ⟨rfl, hb⟩
    go_wp2_with fail
    go_ret
    exact ⟨rfl, hfin.out _ hb⟩
  have g1 : (n : Int) ≤ 300 := by omega
  have n1 : n ≤ 300 := by omega
  have cn := Sc.new_any (ad := a0) (m := (n : Int)) n (by rw [if_neg (by omega)]) w0
  have hnx : Hid (∀ w1, Below w0.heap.size w0 w1 → IsScan w1 w0.heap.size a0 0 n → ∀ w2, w2 = (w1.alloc (.cells #[.int .i64 0] 3)).alloc (.cells #[.bool true] 4) → ∃ ba bs p bn bo, ba = w.heap.size ∧ bs = w.heap.size + 1 ∧ p = w.heap.size + 2 ∧ bn = w1.heap.size ∧ bo = w1.heap.size + 1 ∧ p < bn ∧ Hid (Bx w2 ba bs bn bo a0 sp cap z1 0) ∧ Hid (IsScan w2 p a0 0 n) ∧ Hid (Below w.heap.size w w2) ∧ bo < w2.heap.size) := fun w1 hb hs w2 h2 => by
    have hb2 : Below w1.heap.size w1 w2 := by rw [h2]; exact below_then (below_alloc (Below.refl _ _) _) (below_alloc (Below.refl _ _) _)
    have hz2 : w2.heap.size = w1.heap.size + 2 := by rw [h2]; show ((w1.heap.push _).push _).size = _; rw [Array.size_push, Array.size_push]
    have hb3 : Below w0.heap.size w0 w2 := hb.trans (hb2.mono hb.size)
    have hsl := hs.lt
    rw [hz0] at hsl
    refine ⟨_, _, _, _, _, rfl, rfl, rfl, rfl, rfl, hsl, ⟨(hb3.block _ (by omega)).trans ka, ?_, ?_, ?_, ?_⟩, ?_, hb0.trans (hb3.mono (by omega)), by omega⟩
    · rw [hn0.out]; exact (hb3.block _ (by omega)).trans ks
    · rw [h2]; exact (heap_alloc_old _ _ (by show _ < (w1.heap.push _).size; rw [Array.size_push]; omega)).trans (heap_alloc_new _ _)
    · rw [h2]; exact heap_alloc2_new _ _ _
    · exact (hzI.out.below hb0).wrote (H := fun _ => False) (Wrote.of_below (hb3.mono (Nat.le_refl _))) (fun _ _ h => h)
    · have := hs.below hb2
      rw [hz0] at this; exact this
  have cs0 : w0.cell? ⟨w.heap.size + 1, 0, none⟩ = some (.slice sp n cap) := cell_of ks rfl
  rw [hz0] at cn
  have hz0h := Lib.hid hz0
  clear ka ks hb0 hz0 cs0
  subst hw0
  have hmf : ∀ (fn : Fn) (first cap : Array Value) (w : World), (Instr.makeFunc fn first cap).run Try.prog w = .ok (.func fn first cap) w := fun _ _ _ _ => rfl
  go_enter Try.func9, Try.ntmps9
  go_wp2_with fail
  with_reducible refine Calls.mono (cn) ?_
  rintro e w1 ⟨rfl, hb1, hs1⟩
  rw [← hz0h.out] at hb1 hs1
  have hn1 := hnx.out w1 hb1 hs1
  clear cn hnx hb1 hs1
  go_wp2_with fail
  obtain ⟨ba, bs, p, bn, bo, ea, es, ep, en, eo, o1, hX, hS, hB, hbo⟩ := hn1 _ rfl
  have o2 : ba < bs := by omega
  have o3 : bs < p := by omega
  have o4 : bn < bo := by omega
  have ea2 := Lib.hid ea
  rw [← es, ← ep, ← eo, ← en, ← ea]
  clear hn1 es ep eo en ea hz0h hb0h hzI
  generalize (w1.alloc (.cells #[.int .i64 0] 3)).alloc (.cells #[.bool true] 4) = w2 at *
  obtain ⟨S, hSd⟩ : ∃ S : Nat → Int, (fun i => z1.getD i 0) = S := ⟨_, rfl⟩
  have hSx : Hid (∀ i, z1.getD i 0 = S i) := fun i => congrFun hSd i
  clear hSd
  have hlo : bo + 1 ≤ w2.heap.size := hbo
  have hld : Hid (∀ t c, t + c ≤ n → Load p 39 #[.pointer (some ⟨bo, 0, none⟩), .pointer (some ⟨ba, 0, none⟩), .pointer (some ⟨bn, 0, none⟩), .pointer (some ⟨bs, 0, none⟩)] a0 S (fun i W => Bx W ba bs bn bo a0 sp cap z1 i) (fun k => k = bn ∨ k = bo) (bo + 1) t c) := fun t c htc => by
    refine ⟨fun i W h1 h2 hb => ?_, fun i W W' hb hw => hb.wrote hw (by omega) (by omega) (by omega) (by omega) (fun k hk => by omega), fun k hk => by omega, enter_load⟩
    have := load_any hb (by rw [hn0.out]; omega) (by rw [hn0.out]; omega) o2 (by omega) o4
    rw [hSx.out] at this
    exact this
  go_loopw [9, 10] (fun v st wr => ∃ (s : Option Addr) (cc tt t q : Nat), v = .slice s tt cc ∧ st = .int .i64 q ∧ Hid (t = min (16 * q) n) ∧ bo + 1 ≤ wr.heap.size ∧ Hid (Bx wr ba bs bn bo a0 sp cap z1 t) ∧ Hid (IsScan wr p a0 t n) ∧ Hid (Below ba w wr) ∧ Hid (OffRow wr (.slice s tt cc) (some0 S 0 t)) ∧ Hid (Low (bo + 1) (fun k => (Value.slice s tt cc).ownBlock = some k))) (fun _ st _ => (20 - (RowKit.intOf st).toNat))
  case atStart => exact ⟨none, 0, 0, 0, 0, rfl, rfl, by show _ = _; omega, hlo, hX, hS, by rw [ea2.out]; exact hB, Lib.hid (offrow_nil _), Lib.hid (low_nil _)⟩
  case round =>
    obtain ⟨s, cc, tt, t, q, rfl, rfl, ht, hlo2, hX2, hS2, hB2, hR, hLo⟩ := hrel
    clear hX hS hB hlo hbo
    have htle := hS2.out.le
    have cd := done_any (by omega) hS2.out
    have hdr : Hid (∀ k, Hid (Bx (wr.drewN k) ba bs bn bo a0 sp cap z1 t) ∧ Hid (IsScan (wr.drewN k) p a0 t n) ∧ Hid (Below ba w (wr.drewN k)) ∧ Hid (OffRow (wr.drewN k) (.slice s tt cc) (some0 S 0 t)) ∧ bo + 1 ≤ (wr.drewN k).heap.size) := fun k =>
      ⟨hX2.out.wrote ((Wrote.refl (fun _ => False) wr).drewN k) (fun h => h) (fun h => h) (fun h => h) (fun h => h) (fun _ _ h => h), hS2.out.below (below_drewN (Below.refl _ _) k), below_drewN hB2.out k, off_below hR.out (below_drewN (Below.refl _ _) k), hlo2⟩
    clear hX2 hS2 hB2 hR
    by_cases htn : t = n
    · rw [decide_eq_true htn] at cd
      go_wp2_with fail
      with_reducible refine Calls.mono (cd) ?_
      rintro e w3 ⟨rfl, k, rfl⟩
      obtain ⟨hX3, hS3, hB3, hR3, hlo3⟩ := hdr.out k
      clear cd hdr
      generalize wr.drewN k = w3 at *
      obtain rfl : t = n := htn
      have hlz : Hid (Loads 44 #[.pointer (some ⟨bs, 0, none⟩)] S (fun _ W => Bx W ba bs bn bo a0 sp cap z1 t) (fun _ => False) w3.heap.size 0 t) := by
        refine ⟨fun i W _ h2 hb => ?_, fun i W W' hb hw => hb.wrote hw (by omega) (by omega) (by omega) (by omega) (fun k hk => by omega), fun k hk => hk.elim, enter_at⟩
        have := at_any hb (i := i) (by rw [hn0.out]; omega)
        rw [hSx.out] at this
        exact this.mono fun e w' ⟨h3, h4⟩ => ⟨h3, by rw [← h4]; exact hb, by rw [← h4]; exact Wrote.refl _ _⟩
      have cnm := named_any hlz.out (Nat.le_refl _) hX3.out (by omega)
      rw [Nat.zero_add] at cnm
      have hq : ∀ W : World, Sem.run Try.prog (binOp BinOp.eql 64 (.func (.func 44) #[] #[.pointer (some ⟨bs, 0, none⟩)]) Value.nilFunc) W = .ok (.bool false) W := fun W => by rfl
      have ks3 : w3.cell? ⟨bs, 0, none⟩ = some (.slice sp z1.length cap) := cell_of hX3.out.s rfl
      rw [hn0.out] at ks3
      have call : Calls Try.prog 43 #[.int .i64 t, .func (.func 44) #[] #[.pointer (some ⟨bs, 0, none⟩)]] w3 fun e w' => ∃ v, e = .returned v ∧ OffRow w' v (some0 S 0 t) ∧ Bx w' ba bs bn bo a0 sp cap z1 t ∧ Below w3.heap.size w3 w' := by
        go_enter Try.func43, Try.ntmps43
        go_wp2_with fail
        with_reducible refine Calls.mono cnm ?_
        rintro e w4 ⟨v, rfl, g1, g2, g3, g4⟩
        have g5 : Below w3.heap.size w3 w4 := ⟨g4.os, g4.tape, g4.output, g4.size, fun k hk => g4.block k hk (fun e => e.elim (fun e => e.elim) (fun e => by omega))⟩
        have hf := Lib.hid (And.intro g1 (And.intro g3 g5))
        obtain ⟨s5, c5, rfl⟩ := g1.slice
        clear g1 g2 g3 g4 g5
        go_wp2_with fail
        go_ret
        exact ⟨_, rfl, hf.out.1, hf.out.2.1, hf.out.2.2⟩
      have hnx : Hid (∀ (w5 w6 : World) (v5 : Value), OffRow w5 v5 (some0 S 0 t) → Bx w5 ba bs bn bo a0 sp cap z1 t → Below w3.heap.size w3 w5 → Below w5.heap.size w5 w6 → w6.cell? ⟨bn, 0, none⟩ = some (.int .i64 t) ∧ w6.cell? ⟨bs, 0, none⟩ = some (.slice sp t cap) ∧ Calls Try.prog 24 #[.slice s tt cc, v5] w6 (Ans (.bool true) w6) ∧ Hid (Below ba w w6)) := fun w5 w6 v5 g1 g2 g3 g4 => by
        have g5 := g2.wrote (H := fun _ => False) (Wrote.of_below g4) (fun h => h) (fun h => h) (fun h => h) (fun h => h) (fun _ _ h => h)
        have k2 : w6.cell? ⟨bs, 0, none⟩ = some (.slice sp z1.length cap) := cell_of g5.s rfl
        rw [hn0.out] at k2
        exact ⟨cell_of g5.n rfl, k2, ints_any ((hR3.out.ints.below g3).below g4) (g1.ints.below g4), (hB3.out.trans (g3.mono (by omega))).trans (g4.mono (by have := g3.size; omega))⟩
      clear hlz cnm hq hX3 hS3 hB3 hR3 hld
      go_wp2_with fail
      with_reducible refine Calls.mono call ?_
      rintro e w5 ⟨v5, rfl, g1, g2, g3⟩
      have hn5 := hnx.out w5
      obtain ⟨s5, c5, e5⟩ := g1.slice
      have hn6 : Hid (∀ w6, Below w5.heap.size w5 w6 → w6.cell? ⟨bn, 0, none⟩ = some (.int .i64 t) ∧ w6.cell? ⟨bs, 0, none⟩ = some (.slice sp t cap) ∧ Calls Try.prog 24 #[.slice s tt cc, v5] w6 (Ans (.bool true) w6) ∧ Hid (Below ba w w6)) := fun w6 h => hn5 w6 v5 g1 g2 g3 h
      subst e5
      clear call hnx hn5 g1 g2 g3 ks3
      go_wp2_with fail
      with_reducible refine Calls.mono (ct w5) ?_
      rintro e w6 ⟨rfl, hb6⟩
      obtain ⟨kn, ks, ci, hB6⟩ := hn6.out w6 hb6
      clear hn6 hb6
      go_wp2_with fail
      with_reducible refine Calls.mono (ci) ?_
      rintro e w7 ⟨rfl, k, rfl⟩
      have hB7 := Lib.hid (below_drewN hB6.out k)
      clear ci kn ks hB6
      go_wp2_with fail
      go_ret
      exact ⟨rfl, by rw [← ea2.out]; exact hB7.out⟩
    · rw [decide_eq_false htn] at cd
      go_wp2_with fail
      with_reducible refine Calls.mono (cd) ?_
      rintro e w3 ⟨rfl, k, rfl⟩
      obtain ⟨hX3, hS3, hB3, hR3, hlo3⟩ := hdr.out k
      clear cd hdr
      generalize wr.drewN k = w3 at *
      obtain ⟨c, hc⟩ : ∃ c, min (n - t) 16 = c := ⟨_, rfl⟩
      have kn : w3.cell? ⟨bn, 0, none⟩ = some (.int .i64 t) := cell_of hX3.out.n rfl
      have cs := step_any (hld.out t c (by omega)) hS3.out hc hlo3 hX3.out (by omega) (by omega)
      have hR3' := hR3
      go_wp2_with fail
      with_reducible refine Calls.mono cs ?_
      rintro e w4 ⟨v4, rfl, ho4, hl4, hX4, hS4, hw4⟩
      have hR4 := hR3.out.wrote hw4 (fun k hk e => by have := hLo.out k hk; omega)
      have hB4 : Below ba w w4 := hB3.out.trans (below_of_wrote hw4 (fun k hk => by omega) (by omega))
      have hl4' : Hid (Low (bo + 1) (fun k => v4.ownBlock = some k)) := fun k hk => by have := hl4 k hk; omega
      have hlo4 : bo + 1 ≤ w4.heap.size := Nat.le_trans hlo3 hw4.size
      obtain ⟨L4, hL4⟩ : ∃ L4, (some0 S t c).length = L4 := ⟨_, rfl⟩
      obtain ⟨s4, c4, rfl⟩ := off_slice ho4 hL4
      obtain ⟨m, hm⟩ : ∃ m, t + c = m := ⟨_, rfl⟩
      rw [hm] at hX4 hS4
      have hdr : Hid (∀ k, Hid (Bx (w4.drewN k) ba bs bn bo a0 sp cap z1 m) ∧ Hid (IsScan (w4.drewN k) p a0 m n) ∧ Hid (Below ba w (w4.drewN k)) ∧ Hid (OffRow (w4.drewN k) (.slice s tt cc) (some0 S 0 t)) ∧ Hid (OffRow (w4.drewN k) (.slice s4 L4 c4) (some0 S t c)) ∧ bo + 1 ≤ (w4.drewN k).heap.size) := fun k =>
        ⟨hX4.wrote ((Wrote.refl (fun _ => False) w4).drewN k) (fun h => h) (fun h => h) (fun h => h) (fun h => h) (fun _ _ h => h), hS4.below (below_drewN (Below.refl _ _) k), below_drewN hB4 k, off_below hR4 (below_drewN (Below.refl _ _) k), off_below ho4 (below_drewN (Below.refl _ _) k), hlo4⟩
      have co : w4.cell? ⟨bo, 0, none⟩ = some (.bool true) := cell_of hX4.o rfl
      have kn4 : w4.cell? ⟨bn, 0, none⟩ = some (.int .i64 m) := cell_of hX4.n rfl
      have ks4 : w4.cell? ⟨bs, 0, none⟩ = some (.slice sp z1.length cap) := cell_of hX4.s rfl
      rw [hn0.out] at ks4
      have cl : Hid (∀ k, Calls Try.prog 42 #[.pointer (some ⟨p, 0, none⟩)] (w4.drewN k) (Ans (.int .i64 ((n - m : Nat) : Int)) (w4.drewN k))) := fun k => left_any (by omega) ((hdr.out k).2.1.out)
      obtain ⟨r, hr⟩ : ∃ r, n - m = r := ⟨_, rfl⟩
      rw [hr] at cl
      have hmin : ∀ (ts : Array TypeId) (ty : TypeId) (W : World), (Builtin.min_ ts ty #[.int .i64 ((t : Int) + 16), .int .i64 (n : Int)]).run Try.prog W = .ok (.int .i64 (m : Int)) W := fun ts ty W => by
        rw [run_min_int2]
        by_cases h : (n : Int) < (t : Int) + 16
        · rw [if_pos h]; congr 2; omega
        · rw [if_neg h]; congr 2; omega
      have w16 : IntKind.i64.wrap ((t : Int) + 16) = (t : Int) + 16 := by rw [IntKind.wrap_i64]; omega
      have wsub : IntKind.i64.wrap ((n : Int) - (m : Int)) = (r : Int) := by rw [IntKind.wrap_i64]; omega
      have esub : (n : Int) - (m : Int) = (r : Int) := by omega
      have wr' : IntKind.i64.wrap (r : Int) = (r : Int) := by rw [IntKind.wrap_i64]; omega
      have hq0 : q ≤ 19 := by have := ht.out; omega
      have hq20 : ¬ ((20 : Int) < (q : Int)) := by omega
      have hq20d : decide ((20 : Int) < (q : Int)) = false := decide_eq_false hq20
      have t0 : (0 : Int) ≤ (t : Int) := by omega
      have tn : t < n := by omega
      have tm : t ≤ m := by omega
      have mn : m ≤ n := by omega
      have hcm := Lib.hid hm
      have hc16 : c ≤ 16 := by omega
      have hc0 : 0 < c := by omega
      have hmq : Hid (m = min (16 * (q + 1)) n) := by have := ht.out; show _ = _; omega
      clear cs hX3 hS3 hB3 hR3 hR3' hX4 hS4 hw4 hR4 hB4 ho4 hl4 kn hc hm hr ht htn hlo2 hlo3
      go_wp2_with fail
      go_quiet ((go_at_call 42; exact quiet_ans1 (cl.out _)))
      go_wp2_with fail
      clear hmin w16 wsub esub wr' hq20 hq20d cl co kn4 ks4
      have hsl : Hid ((some0 S t c).length = L4) := hL4
      have hst2 : Hid (∀ j, j < c → some0 S t (j + 1) = if S (t + j) = 0 then some0 S t j else some0 S t j ++ [S (t + j)]) := fun j _ => rfl
      clear hL4
      go_loopw [13, 14] (fun k i wr2 => ∃ j u kk nq : Nat, k = .int .i64 kk ∧ i = .int .i64 u ∧ Hid (t + j = u) ∧ Hid (kk = (some0 S t j).length) ∧ j ≤ c ∧ u ≤ m ∧ wr2 = w4.drewN nq) (fun _ i _ => (m - (RowKit.intOf i).toNat))
      case atStart => exact ⟨0, t, 0, _, rfl, rfl, rfl, rfl, by omega, by omega, rfl⟩
      case round =>
        obtain ⟨j, u, kk, nq, rfl, rfl, hu, hkk, j1, u1, rfl⟩ := hrel
        obtain ⟨hX5, hS5, hB5, hR5, hO5, hlo5⟩ := hdr.out nq
        have kn5 : (w4.drewN nq).cell? ⟨bn, 0, none⟩ = some (.int .i64 m) := cell_of hX5.out.n rfl
        have kn6 := kn5
        replace kn5 : w4.cell? ⟨bn, 0, none⟩ = some (.int .i64 m) := kn5
        by_cases hum : u < m
        · have i2 : (u : Int) < (m : Int) := by omega
          have i0 : (0 : Int) ≤ (u : Int) := by omega
          have i3 : (u : Int) < (n : Int) := by omega
          have hjc : j < c := by have := hu.out; have := hcm.out; omega
          have ks5 : w4.cell? ⟨bs, 0, none⟩ = some (.slice sp z1.length cap) := cell_of hX5.out.s rfl
          rw [hn0.out] at ks5
          obtain ⟨sp', cap', e, _, hc5⟩ := hX5.out.z
          obtain ⟨rfl, rfl⟩ : sp = sp' ∧ cap = cap' := by injection e with e1 e2 e3; exact ⟨e1, e3⟩
          obtain ⟨b, off, rfl, _, _, k1⟩ := hc5 u (by rw [hn0.out]; omega)
          rw [hSx.out] at k1
          replace k1 : w4.cell? ⟨b, off + u, none⟩ = some (.int .i64 (S u)) := k1
          clear e hc5 hX5 hS5 hB5 hR5
          have hst3 := hst2.out j hjc
          rw [hu.out] at hst3
          by_cases hz : S u = 0
          · have hk2 : Hid (kk = (some0 S t (j + 1)).length) := by
              show _ = _
              rw [hst3, if_pos hz]; exact hkk.out
            rw [hz] at k1
            clear hst3 hz hO5
            go_wp2_with fail
            go_roundw
            case rel => exact ⟨j + 1, u + 1, kk, nq, rfl, by go_num, by have := hu.out; show _ = _; omega, hk2, by omega, by omega, rfl⟩
            case measure => simp [RowKit.intOf]; omega
          · have hin := some0_in S t hjc (by rw [hu.out]; exact hz)
            rw [hu.out, ← hkk.out, hsl.out] at hin
            obtain ⟨hk4, hget⟩ := hin
            have hk2 : Hid (kk + 1 = (some0 S t (j + 1)).length) := by
              show _ = _
              rw [hst3, if_neg hz, List.length_append, List.length_singleton, ← hkk.out]
            obtain ⟨b4, off4, cp4, e4, k4⟩ := row_at hO5.out hget hsl.out hk4
            replace k4 : w4.cell? ⟨b4, off4 + kk, none⟩ = some (.int .i64 (S u)) := k4
            obtain ⟨rfl, rfl⟩ : s4 = some ⟨b4, off4, none⟩ ∧ c4 = cp4 := by injection e4 with e1 e2 e3; exact ⟨e1, e3⟩
            have hz2 : (S u == 0) = false := by rw [beq_eq_false_iff_ne]; exact hz
            have hz3 : (S u != 0) = true := by simp [bne, hz2]
            have k5 : (kk : Int) < (L4 : Int) := by omega
            have k6 : (0 : Int) ≤ (kk : Int) := by omega
            have k7 : decide ((L4 : Int) ≤ (kk : Int)) = false := decide_eq_false (by omega)
            have k8 : decide (L4 ≤ kk) = false := decide_eq_false (by omega)
            have k9 : ¬ (L4 ≤ kk) := by omega
            have hL300 : kk ≤ 1000 := by have := some0_len S t j; have := hkk.out; omega
            clear hst3 hz hget hO5 e4
            generalize S u = x at *
            go_wp2_with fail
            go_quiet (fail)
            go_wp2_with fail
            go_roundw
            case rel => exact ⟨j + 1, u + 1, kk + 1, _, by go_num, by go_num, by have := hu.out; show _ = _; omega, hk2, by omega, by omega, by first | rfl | exact World.drewN_drewN _ _ _⟩
            case measure => simp [RowKit.intOf]; omega
        · obtain rfl : u = m := by omega
          obtain rfl : j = c := by have := hu.out; have := hcm.out; omega
          have i2 : ¬ ((u : Int) < (u : Int)) := by omega
          have hkL : Hid (kk = L4) := by show _ = _; rw [hkk.out, hsl.out]
          obtain rfl : kk = L4 := hkL.out
          have hRl := some0_len S 0 t
          have hOl := some0_len S t j
          have hbd : (some0 S 0 t).length + (some0 S t j).length ≤ 1000000 := by omega
          have hmu : t + j = u := hcm.out
          have hnx : Hid (∀ (w6 : World) (v6 : Value), OffRow w6 v6 (some0 S 0 t ++ some0 S t j) → Low (bo + 1) (fun k => v6.ownBlock = some k) → Below (bo + 1) (w4.drewN nq) w6 → (∃ s6 c6 t6, v6 = .slice s6 t6 c6) ∧ bo + 1 ≤ w6.heap.size ∧ Hid (Bx w6 ba bs bn bo a0 sp cap z1 u) ∧ Hid (IsScan w6 p a0 u n) ∧ Hid (Below ba w w6) ∧ Hid (OffRow w6 v6 (some0 S 0 u))) := fun w6 v6 g1 g2 g3 => by
            have hw : Wrote (fun k => bo + 1 ≤ k) (w4.drewN nq) (fun k => bo + 1 ≤ k) w6 := ⟨g3.os, g3.tape, g3.output, g3.size, fun k _ hk => g3.block k (by omega), fun k hk => Or.inl hk⟩
            obtain ⟨s6, c6, e6⟩ := g1.slice
            have hsum := some0_add S 0 t j
            rw [Nat.zero_add, hmu] at hsum
            rw [hsum] at g1
            exact ⟨⟨s6, c6, _, e6⟩, Nat.le_trans hlo5 g3.size, hX5.out.wrote hw (by omega) (by omega) (by omega) (by omega) (fun k hk => by omega), hS5.out.wrote hw (by omega), hB5.out.trans (g3.mono (by omega)), g1⟩
          have hsrc := Lib.hid (src_of_ints hO5.out.ints)
          clear hX5 hS5 hB5 hdr hO5 hRl hOl hkk hmu kn5
          obtain ⟨w5, hw5⟩ : ∃ w5, w4.drewN nq = w5 := ⟨_, rfl⟩
          have hkn : w5.cell? ⟨bn, 0, none⟩ = some (.int .i64 u) := by rw [← hw5]; exact kn6
          rw [hw5] at hnx hsrc hR5 hlo5 ⊢
          clear hw5 kn6
          go_wp2_with (at_builtin; refine wpList_append_low rfl (.tmp 92) (.tmp 93) rfl rfl (bo + 1) hR5.out hLo.out hlo5 rfl rfl hsrc.out hbd ?_; intro v6 w6 g1 g2 g3; have hk := hnx.out w6 v6 g1 g2 g3; obtain ⟨⟨s6, c6, t6, rfl⟩, hlo6, hX6, hS6, hB6, hR6⟩ := hk; replace g2 := Lib.hid g2; clear g1 g3 hnx hR5 hLo hsrc)
          go_roundw
          case rel => exact ⟨s6, c6, t6, u, q + 1, rfl, by go_num, hmq, hlo6, hX6, hS6, hB6, hR6, g2⟩
          case measure => simp [RowKit.intOf]; omega

set_option maxRecDepth 100000 in
theorem lifted (os : Os) (started : os.Started) (H : Type) (enc : TypeId × Value → H) :
    ReturnsInHanded {} Try.checked os 9 .any (Rows.scanChunksSpec.pre6 enc Try.prog Try.f9 Rows.scanChunksRow.domain false) (Rows.scanChunksSpec.post enc Try.prog Try.f9 false true false false) := by
  refine returnsInHanded_of_change (C := Try.checked) own started (by kernel_rfl) Try.func9
    (ChangeSpec.witness6 (enc := enc) (C := Try.checked) false ⟨#[], #[.int .i64 0, .slice none 0 0], []⟩ 8 (by kernel_rfl) (by kernel_rfl) (by kernel_rfl) (by kernel_rfl)) ?_
  intro W base args ds gs before hval0 hW hcnd _
  have hval : ∀ (j : Nat) t v, Try.f9.params[j]? = some t → args[j]? = some v → Value.okWide Try.prog W .any base t v := hval0
  have hW' := hW
  obtain ⟨p, q, hA0, hV, rfl, hfz, hnd⟩ := hW
  have hA : DataW.TrodAll enc Try.prog W 0 (fun _ => true) true Try.f9.params.toList args.toList ds p := hA0
  rw [Try.params9] at hA hval
  obtain ⟨v0, vs0, d0, ds0, p0, q0, hargs, rfl, rfl, h0, r0⟩ := trodAll_cons hA
  obtain ⟨v1, vs1, d1, ds1, p1, q1, rfl, rfl, rfl, h1, r1⟩ := trodAll_cons r0
  obtain ⟨rfl, rfl, rfl⟩ := trodAll_nil r1
  obtain rfl : args = #[v0, v1] := by cases args; simp_all
  obtain ⟨rfl, rfl⟩ := trodVars_none hV
  obtain ⟨z1, i1⟩ := arg_ints (hval 1 26 v1 rfl rfl) h1
  obtain ⟨a0, rfl, rfl, rfl, w0⟩ := open_int Try.underlying3 (hval 0 3 v0 rfl rfl) h0
  clear hA0 hval0
  simp only [List.append_nil] at hW'
  have lt1 : ∀ x ∈ p1, x.block < W.heap.size := fun x hx => by have := hW'.lt x (by simp [hx]); simpa using this
  refine (walk a0 v1 z1 W w0 i1).mono fun e W' ⟨he, hg⟩ => ?_
  subst he
  exact ⟨_, rfl, post_of_kept (pa := _) (pv := []) hW' (fun _ _ _ => (trodAll_cons_mk (shut_bool Try.underlying4 _) trodAll_mk0)) (trodAll_cons_mk (shut_int Try.underlying3 w0) (trodAll_cons_mk (Below.trod laidOut (by kernel_rfl) (of_decide_eq_true (by kernel_rfl)) h1 hg lt1) trodAll_mk0)) (fun _ _ => rfl) (by simp) hg⟩

theorem over : Rows.scanChunksRow.holds Try.pinned (OpenSpec.ofChange Rows.scanChunksSpec) :=
  OpenClaim.holds_of_wide 9 Try.f9 rfl rfl rfl rfl rfl rfl rfl ⟨rfl, rfl, rfl, rfl, rfl⟩ rfl rfl rfl rfl rfl (by kernel_rfl) Try.func9 (by kernel_rfl)
    (of_decide_eq_true (by kernel_rfl)) (by unfold Func.isWrapper; first | (rw [if_pos (by decide +kernel)]; kernel_rfl) | (rw [if_neg (by decide +kernel)]; exact ⟨rfl, rfl⟩))
    (fun os started H enc _ => lifted os started H enc)

theorem proved : Rows.ScanChunksSaid :=
  over
#print axioms proved
end Go.Proofs.Ytgmcimhlkccfdaa.scanChunks
