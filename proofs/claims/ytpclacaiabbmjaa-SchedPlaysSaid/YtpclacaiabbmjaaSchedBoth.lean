/- A Sched of the program, and the document's own beside it. -/
import Derived.Test.YtpclacaiabbmjaaRSch8
import Derived.Test.YtpclacaiabbmjaaRSch9
import Derived.Test.YtpclacaiabbmjaaSchedTold
import Derived.Test.YtpclacaiabbmjaaSchedSum
namespace Go.Proofs.Ytpclacaiabbmjaa
open Go.RowKit Go.Lib Fx Ho Gr Rw
set_option linter.unusedVariables false
namespace Zs
open Sd (Rg rg0 rAll rPut rGet getV pickS getN Ss Step whereV sumR fa fs)
open Dx (IsX XS nS)
variable {W0 W W' : World} {p x z n m m' k i : Nat} {R R' Rd Rd' : List Rg} {C C' Cd Cd' : List Int} {H S : Home} {rv lv v : Value} {A : List Nat} {e : Ending} {o : Obj} {g : Int} {b : Bool}
structure Core (H S : Home) (W0 W : World) (p x : Nat) (rv lv : Value) (A : List Nat) (R : List Rg) (C : List Int) (Rd : List Rg) (Cd : List Int) : Prop where
  s : Ss W0 W p H R C
  d : IsX S W x rv lv A Rd Cd
  off : ∀ k, H k → Dx.home x rv A k → False
  offS : ∀ k, S k → H k → False
  lowd : ∀ k, Dx.home x rv A k → W0.heap.size ≤ k
  sb : ∀ k, S k → k < W.heap.size
namespace Core
theorem below (h : Core H S W0 W p x rv lv A R C Rd Cd) (hb : Below W.heap.size W W') : Core H S W0 W' p x rv lv A R C Rd Cd :=
  ⟨h.s.below hb, h.d.below hb, h.off, h.offS, h.lowd, fun k hk => Nat.lt_of_lt_of_le (h.sb k hk) hb.size⟩
theorem left (h : Core H S W0 W p x rv lv A R C Rd Cd) (hs : Step v W0 W p H R' C' e W') : ∃ H', Wrote H W H' W' ∧ Core H' S W0 W' p x rv lv A R' C' Rd Cd := by
  obtain ⟨he, H', hw, h2⟩ := hs
  refine ⟨H', hw, h2, h.d.wrote hw (fun k h1 h2 => h.off k h2 h1) h.offS, fun k h1 h3 => ?_, fun k h1 h3 => ?_, h.lowd, fun k hk => Nat.lt_of_lt_of_le (h.sb k hk) hw.size⟩
  · rcases hw.home k h1 with h4 | h4
    · exact h.off k h4 h3
    · have := h.d.lt h3; omega
  · rcases hw.home k h3 with h4 | h4
    · exact h.offS k h1 h4
    · have := h.sb k h1; omega
theorem right (h : Core H S W0 W p x rv lv A R C Rd Cd) (hs : XS S v W x rv A Rd' Cd' e W') : ∃ S' rv' lv' A', Wrote (Dx.home x rv A) W (Dx.home x rv' A') W' ∧ Core H S' W0 W' p x rv' lv' A' R C Rd' Cd' := by
  obtain ⟨he, S', rv', lv', A', hsub, hw, h2⟩ := hs
  refine ⟨fun k => S' k ∧ k < W'.heap.size, rv', lv', A', hw, h.s.wrote hw h.off h.lowd, h2.toS (fun k hk hl => ⟨hk, hl⟩) (fun k hk hs => h2.off_home hk hs.1), fun k h1 h3 => ?_, fun k h1 h3 => ?_, fun k h1 => ?_, fun k hk => hk.2⟩
  · rcases hw.home k h3 with h4 | h4
    · exact h.off k h1 h4
    · have := h.s.lt h1; omega
  · rcases hsub k h1.1 with h4 | h4
    · exact h.offS k h4 h3
    · have := h.s.lt h3; omega
  · rcases hw.home k h1 with h4 | h4
    · exact h.lowd k h4
    · have := h.s.out.size; omega
end Core
/-- How many stand there in all. -/
def tot (R : List Rg) (C : List Int) : Nat := fa (fun _ => 1) R C
/-- Both hold the same, of n Ps, at most m in all. -/
def Zz (n : Nat) (W0 W : World) (p x m : Nat) : Prop := ∃ H S rv lv A R C, Core H S W0 W p x rv lv A R C R C ∧ R.length = n ∧ tot R C ≤ m
theorem Zz.bel (h : Zz n W0 W p x m) : Below W0.heap.size W0 W := by obtain ⟨H, S, rv, lv, A, R, C, h, _⟩ := h; exact h.s.out
theorem Zz.below (h : Zz n W0 W p x m) (hb : Below W.heap.size W W') : Zz n W0 W' p x m := by obtain ⟨H, S, rv, lv, A, R, C, h, h1⟩ := h; exact ⟨H, S, rv, lv, A, R, C, h.below hb, h1⟩
theorem Zz.more (h : Zz n W0 W p x m) (hm : m ≤ m') : Zz n W0 W p x m' := by obtain ⟨H, S, rv, lv, A, R, C, h, h1, h2⟩ := h; exact ⟨H, S, rv, lv, A, R, C, h, h1, Nat.le_trans h2 hm⟩
/-- .. and a block z of the law's own beside them. -/
def Bz (n : Nat) (W0 W : World) (p x z : Nat) (o : Obj) (m : Nat) : Prop := W.heap[z]? = some o ∧ ∃ H S rv lv A R C, Core H S W0 W p x rv lv A R C R C ∧ R.length = n ∧ tot R C ≤ m ∧ ¬ H z ∧ ¬ Dx.home x rv A z
theorem bz_of {B : Array Value} {t : TypeId} (h : Zz n W0 W p x m) (hz : W.heap.size = z) : Bz n W0 (W.alloc (.cells B t)) p x z (.cells B t (0, 0)) m := by
  obtain ⟨H, S, rv, lv, A, R, C, h, h1, h2⟩ := h
  refine ⟨by rw [← hz]; exact heap_alloc_new _ _, H, S, rv, lv, A, R, C, h.below (below_alloc (Below.refl _ _) _), h1, h2, fun hk => by have := h.s.lt hk; omega, fun hk => by have := h.d.lt hk; omega⟩
theorem Bz.zz (h : Bz n W0 W p x z o m) : Zz n W0 W p x m := by obtain ⟨_, H, S, rv, lv, A, R, C, h, h1, h2, _⟩ := h; exact ⟨H, S, rv, lv, A, R, C, h, h1, h2⟩
theorem Bz.below (h : Bz n W0 W p x z o m) (hb : Below W.heap.size W W') : Bz n W0 W' p x z o m := by
  obtain ⟨hz, H, S, rv, lv, A, R, C, h, h1⟩ := h
  exact ⟨(hb.block z (block_lt hz)).trans hz, H, S, rv, lv, A, R, C, h.below hb, h1⟩
theorem Bz.more (h : Bz n W0 W p x z o m) (hm : m ≤ m') : Bz n W0 W p x z o m' := by obtain ⟨hz, H, S, rv, lv, A, R, C, h, h1, h2, h3⟩ := h; exact ⟨hz, H, S, rv, lv, A, R, C, h, h1, Nat.le_trans h2 hm, h3⟩
theorem Bz.zc (h : Bz n W0 W p x z o m) : W.heap[z]? = some o := h.1
/-- Two calls that answer the same. -/
def Two (g : Nat) (args : Array Value) (v : Value) (n : Nat) (W0 : World) (p x z : Nat) (o : Obj) (m : Nat) (e : Ending) (W1 : World) : Prop :=
  e = .returned v ∧ W1.heap[z]? = some o ∧ Hid (∀ V, Below W1.heap.size W1 V → Calls Try.prog g args V fun e2 W2 => e2 = .returned v ∧ W2.heap[z]? = some o ∧ Hid (Bz n W0 W2 p x z o m))
theorem two_of {f g : Nat} {B B2 : Array Value} (h : Core H S W0 W p x rv lv A R C R C) (hz : W.heap[z]? = some o) (hk : ¬ H z) (hx : ¬ Dx.home x rv A z) (hl : R'.length = n) (hf : Calls Try.prog f B W (Step v W0 W p H R' C')) (hg : ∀ V S rv lv A, IsX S V x rv lv A R C → Calls Try.prog g B2 V (XS S v V x rv A R' C')) (ht : tot R' C' ≤ m) : Calls Try.prog f B W (Two g B2 v n W0 p x z o m) :=
  hf.mono fun e W1 hs => by
    have hzl := block_lt hz
    obtain ⟨H1, hw1, h1⟩ := h.left hs
    have hz1 : W1.heap[z]? = some o := (hw1.block z hzl hk).trans hz
    have hk1 : ¬ H1 z := fun h' => (hw1.home z h').elim hk (fun h3 => by omega)
    refine ⟨hs.1, hz1, Lib.hid fun V hV => (hg V S rv lv A (h1.below hV).d).mono fun e2 W2 hd => ?_⟩
    obtain ⟨S2, rv2, lv2, A2, hw2, h2⟩ := (h1.below hV).right hd
    have hzV : V.heap[z]? = some o := (hV.block z (block_lt hz1)).trans hz1
    have hz2 : W2.heap[z]? = some o := (hw2.block z (block_lt hzV) hx).trans hzV
    exact ⟨hd.1, hz2, Lib.hid ⟨hz2, H1, S2, rv2, lv2, A2, R', C', h2, hl, ht, hk1, fun h' => (hw2.home z h').elim hx (fun h3 => by have := block_lt hzV; omega)⟩⟩
theorem c_le (h : tot R C ≤ m) : C.length ≤ m := by
  unfold tot at h
  rw [Sd.fa_one] at h
  omega
theorem tot_put (hi : i < R.length) (g : Int) (b : Bool) : tot (R.set i (rPut (R.getD i rg0) g b).1) (C ++ (rPut (R.getD i rg0) g b).2) = tot R C + 1 := by
  have h1 := Sd.fa_set (f := fun _ => 1) (r := (rPut (R.getD i rg0) g b).1) (C := C) (C' := C ++ (rPut (R.getD i rg0) g b).2) hi
  have h2 := Sd.rput_fs (f := fun _ => 1) (R.getD i rg0) g b
  rw [Sd.fs_app] at h1
  unfold tot
  omega
theorem tot_drop (hi : i < R.length) : tot (R.set i rg0) (C ++ rAll (R.getD i rg0)) = tot R C := by
  have h1 := Sd.fa_set (f := fun _ => 1) (r := rg0) (C := C) (C' := C ++ rAll (R.getD i rg0)) hi
  have h2 : fs (fun _ => 1) (rAll rg0) = 0 := rfl
  rw [Sd.fs_app, h2] at h1
  unfold tot
  omega
theorem tot_pick (hi : i < R.length) (t u : Int) : tot (pickS R C i t u).2.1 (pickS R C i t u).2.2 ≤ tot R C := by
  obtain ⟨a, b, c, hp⟩ : ∃ a b c, pickS R C i t u = (a, b, c) := ⟨_, _, _, rfl⟩
  cases a with
  | some g =>
    have := Sd.pick_fs (f := fun _ => 1) hi hp
    rw [hp]
    show fa _ b c ≤ fa _ R C
    omega
  | none =>
    have := (Sd.pick_nobody (t := t) (v := u) (C := C) hi (by rw [hp])).1
    rw [this]; exact Nat.le_refl _
theorem get_out (r : Rg) : getN r (rAll r).length = rg0 := by
  have h := Sd.getN_all r (rAll r).length
  rw [List.drop_length] at h
  exact (Sd.rget_none (r := getN r (rAll r).length) (by unfold rGet; rw [h])).1
/-- Nobody comes to a P that there is not. -/
theorem ready_out (h : Ss W0 W p H R C) (i : Int) (hi : i < 0 ∨ (R.length : Int) ≤ i) (g : Int) (next : Bool) : Calls Try.prog 14 #[.pointer (some ⟨p, 0, none⟩), .int .i64 i, .int .i64 g, .bool next] W (Ans (.int .i64 1) W) := by
  obtain ⟨q, rv, qv, A, h1, _⟩ := h
  have cr := Sd.ring_out h1 i hi
  clear h1
  go_enter Try.func14, Try.ntmps14
  go_wp2_with fail
  with_reducible refine Calls.mono (cr) ?_
  rintro e w2 ⟨rfl, c, rfl⟩
  go_wp2_with fail
  go_ret
  exact ⟨rfl, c, rfl⟩
theorem pick_out (h : Ss W0 W p H R C) (i : Int) (hi : i < 0 ∨ (R.length : Int) ≤ i) (t u : Int) : Calls Try.prog 18 #[.pointer (some ⟨p, 0, none⟩), .int .i64 i, .int .i64 t, .int .i64 u] W (Ans (.tuple #[.int .i64 0, .bool false]) W) := by
  obtain ⟨q, rv, qv, A, h1, _⟩ := h
  have cr := Sd.ring_out h1 i hi
  clear h1
  go_enter Try.func18, Try.ntmps18
  go_wp2_with fail
  with_reducible refine Calls.mono (cr) ?_
  rintro e w2 ⟨rfl, c, rfl⟩
  go_wp2_with fail
  go_ret2
  exact ⟨rfl, c, rfl⟩
theorem step_of_ans {f : Nat} {B : Array Value} (h : Ss W0 W p H R C) (hf : Calls Try.prog f B W (Ans v W)) : Calls Try.prog f B W (Step v W0 W p H R C) :=
  hf.mono fun e w' ⟨he, c, hw⟩ => by
    subst hw
    have hb : Below W.heap.size W (W.drewN c) := below_drewN (Below.refl _ _) c
    exact ⟨he, H, Wrote.of_below hb, h.below hb⟩
theorem z_ready (h : Bz n W0 W p x z o m) (hn : n ≤ 64) (hm : m ≤ 100000) (P g : Int) (b : Bool) : ∃ r : Int, ∀ V, Below W.heap.size W V → Calls Try.prog 14 #[.pointer (some ⟨p, 0, none⟩), .int .i64 P, .int .i64 g, .bool b] V (Two 15 #[.pointer (some ⟨x, 0, none⟩), .int .i64 P, .int .i64 g, .bool b] (.int .i64 r) n W0 p x z o (m + 1)) := by
  obtain ⟨hz, H, S, rv, lv, A, R, C, h, hl, ht, hk, hx⟩ := h
  have hc := c_le ht
  by_cases hP : P < 0 ∨ (R.length : Int) ≤ P
  · exact ⟨1, fun V hb => two_of (h.below hb) ((hb.block z (block_lt hz)).trans hz) hk hx hl (step_of_ans (h.below hb).s (ready_out (h.below hb).s P hP g b)) (fun V S rv lv A hV => Dx.ready_out hV hP g b) (by omega)⟩
  · obtain ⟨k, rfl⟩ : ∃ k : Nat, P = (k : Int) := ⟨P.toNat, by omega⟩
    have hi : k < R.length := by omega
    exact ⟨0, fun V hb => two_of (h.below hb) ((hb.block z (block_lt hz)).trans hz) hk hx (by rw [List.length_set]; exact hl) (Sd.ready_in (h.below hb).s hi g b (by omega)) (fun V S rv lv A hV => Dx.ready_in hV hi (by omega) g b (by omega)) (by rw [tot_put hi]; omega)⟩
theorem z_pick (h : Bz n W0 W p x z o m) (hn : n ≤ 64) (hm : m ≤ 100000) (P t u : Int) : ∃ (a : Int) (b : Bool), Calls Try.prog 18 #[.pointer (some ⟨p, 0, none⟩), .int .i64 P, .int .i64 t, .int .i64 u] W (Two 19 #[.pointer (some ⟨x, 0, none⟩), .int .i64 P, .int .i64 t, .int .i64 u] (.tuple #[.int .i64 a, .bool b]) n W0 p x z o m) := by
  obtain ⟨hz, H, S, rv, lv, A, R, C, h, hl, ht, hk, hx⟩ := h
  have hc := c_le ht
  by_cases hP : P < 0 ∨ (R.length : Int) ≤ P
  · exact ⟨0, false, two_of h hz hk hx hl (step_of_ans h.s (pick_out h.s P hP t u)) (fun V S rv lv A hV => Dx.pick_out hV hP) ht⟩
  · obtain ⟨k, rfl⟩ : ∃ k : Nat, P = (k : Int) := ⟨P.toNat, by omega⟩
    have hi : k < R.length := by omega
    obtain ⟨a, b, hv⟩ := Sd.get_pair (pickS R C k t u).1
    have h1 := Sd.pick_in h.s hi t u (by omega) (by omega)
    rw [hv] at h1
    refine ⟨a, b, two_of h hz hk hx (by rw [Sd.pick_len]; exact hl) h1 (fun V S rv lv A hV => by rw [← hv]; exact Dx.pick_any hV hi t u (by omega) (by omega)) (Nat.le_trans (tot_pick hi t u) ht)⟩
theorem z_drop (h : Bz n W0 W p x z o m) (hn : n ≤ 64) (hm : m ≤ 100000) (P : Int) : ∃ r : Int, ∀ V, Below W.heap.size W V → Calls Try.prog 20 #[.pointer (some ⟨p, 0, none⟩), .int .i64 P] V (Two 21 #[.pointer (some ⟨x, 0, none⟩), .int .i64 P] (.int .i64 r) n W0 p x z o m) := by
  obtain ⟨hz, H, S, rv, lv, A, R, C, h, hl, ht, hk, hx⟩ := h
  have hc := c_le ht
  by_cases hP : P < 0 ∨ (R.length : Int) ≤ P
  · exact ⟨0, fun V hb => two_of (h.below hb) ((hb.block z (block_lt hz)).trans hz) hk hx hl (step_of_ans (h.below hb).s (Sd.drop_out (h.below hb).s P hP)) (fun V S rv lv A hV => Dx.drop_out hV hP) ht⟩
  · obtain ⟨k, rfl⟩ : ∃ k : Nat, P = (k : Int) := ⟨P.toNat, by omega⟩
    have hi : k < R.length := by omega
    refine ⟨((rAll (R.getD k rg0)).length : Nat), fun V hb => ?_⟩
    have h1 := Sd.drop_in (h.below hb).s hi (by omega)
    rw [get_out] at h1
    exact two_of (h.below hb) ((hb.block z (block_lt hz)).trans hz) hk hx (by rw [List.length_set]; exact hl) h1 (fun V S rv lv A hV => Dx.drop_in hV hi (by omega) (by omega)) (by rw [tot_drop hi]; exact ht)
theorem z_global (h : Bz n W0 W p x z o m) (hm : m ≤ 100000) (g : Int) : Calls Try.prog 16 #[.pointer (some ⟨p, 0, none⟩), .int .i64 g] W (fun e W1 => e = .returned (.tuple #[]) ∧ W1.heap[z]? = some o ∧ Hid (∀ V u S', Below W1.heap.size W1 V → Ints V S' u [g] → Calls Try.prog 17 #[.pointer (some ⟨x, 0, none⟩), u] V fun e2 W2 => e2 = .returned (.tuple #[]) ∧ W2.heap[z]? = some o ∧ Hid (Bz n W0 W2 p x z o (m + 1)))) := by
  obtain ⟨hz, H, S, rv, lv, A, R, C, h, hl, ht, hk, hx⟩ := h
  have hc := c_le ht
  have htt : tot R (C ++ [g]) = tot R C + 1 := by unfold tot; rw [Sd.fa_one, Sd.fa_one]; simp; omega
  refine (Sd.global_any h.s g (by omega)).mono fun e W1 hs => ?_
  have hzl := block_lt hz
  obtain ⟨H1, hw1, h1⟩ := h.left hs
  have hz1 : W1.heap[z]? = some o := (hw1.block z hzl hk).trans hz
  have hk1 : ¬ H1 z := fun h' => (hw1.home z h').elim hk (fun h3 => by omega)
  refine ⟨hs.1, hz1, Lib.hid fun V u S' hV hu => (Dx.global_any (h1.below hV).d hu (by simp; omega)).mono fun e2 W2 hd => ?_⟩
  obtain ⟨S2, rv2, lv2, A2, hw2, h2⟩ := (h1.below hV).right hd
  have hzV : V.heap[z]? = some o := (hV.block z (block_lt hz1)).trans hz1
  have hz2 : W2.heap[z]? = some o := (hw2.block z (block_lt hzV) hx).trans hzV
  exact ⟨hd.1, hz2, Lib.hid ⟨hz2, H1, S2, rv2, lv2, A2, R, C ++ [g], h2, hl, by omega, hk1, fun h' => (hw2.home z h').elim hx (fun h3 => by have := block_lt hzV; omega)⟩⟩
theorem where_pair (R : List Rg) (C : List Int) (g : Int) : ∃ (a : Int) (b : Bool), whereV R C g = .tuple #[.int .i64 a, .bool b] := by
  unfold whereV
  split
  · exact ⟨_, _, rfl⟩
  · split
    · exact ⟨_, _, rfl⟩
    · exact ⟨_, _, rfl⟩
/-- Where g stands, for both. -/
theorem z_where (h : Zz n W0 W p x m) (hn : n ≤ 64) (hm : m ≤ 100000) (g : Int) : ∃ (a : Int) (b : Bool), (∀ V, Below W.heap.size W V → Calls Try.prog 22 #[.pointer (some ⟨p, 0, none⟩), .int .i64 g] V fun e W' => e = .returned (.tuple #[.int .i64 a, .bool b]) ∧ Below V.heap.size V W') ∧ ∀ V, Below W.heap.size W V → Calls Try.prog 23 #[.pointer (some ⟨x, 0, none⟩), .int .i64 g] V fun e W' => e = .returned (.tuple #[.int .i64 a, .bool b]) ∧ Below V.heap.size V W' := by
  obtain ⟨H, S, rv, lv, A, R, C, h, hl, ht⟩ := h
  have hc := c_le ht
  obtain ⟨a, b, hv⟩ := where_pair R C g
  refine ⟨a, b, fun V hV => ?_, fun V hV => ?_⟩
  · rw [← hv]; exact Sd.where_any (h.below hV).s g (by omega)
  · rw [← hv]; exact Dx.where_any (h.below hV).d g (by omega) (by omega)
theorem z_len (h : Zz n W0 W p x m) (hn : n ≤ 64) (hm : m ≤ 100000) : ∃ u : Nat, (∀ V, Below W.heap.size W V → Calls Try.prog 24 #[.pointer (some ⟨p, 0, none⟩)] V (Ans (.int .i64 u) V)) ∧ ∀ V, Below W.heap.size W V → Calls Try.prog 25 #[.pointer (some ⟨x, 0, none⟩)] V fun e W' => e = .returned (.int .i64 u) ∧ Below V.heap.size V W' := by
  obtain ⟨H, S, rv, lv, A, R, C, h, hl, ht⟩ := h
  have hc := c_le ht
  exact ⟨_, fun V hV => Sd.len_any (h.below hV).s (by omega) (by omega), fun V hV => Dx.len_any (h.below hV).d (by omega) (by omega)⟩
/-- Both are made. -/
theorem new_both (h : Ss W0 W p H (List.replicate n rg0) []) (hx : Dx.NX n W x W') : Zz n W0 W' p x 0 := by
  obtain ⟨rv, lv, A, h1, h2, h3⟩ := hx
  have hsz := h.out.size
  refine ⟨H, Dx.no, rv, lv, A, _, _, ⟨h.below h3, h1, fun k a b => ?_, fun k a => a.elim, fun k a => Nat.le_trans hsz (h2 k a), fun k a => a.elim⟩, List.length_replicate, ?_⟩
  · have := h.lt a
    have := h2 k b
    omega
  · unfold tot; rw [Sd.fa_none]; exact Nat.le_refl _
/-- One P's own, for both. -/
theorem z_local (h : Zz n W0 W p x m) (hn : n ≤ 64) {k : Nat} (hk : k < n) : ∃ rv b off cap a, rv = .slice (some ⟨b, off, none⟩) n cap ∧ (∀ V, Below W.heap.size W V → V.cell? ⟨x, 0, none⟩ = some rv ∧ V.cell? ⟨b, off + k, none⟩ = some (.pointer (some ⟨a, 0, none⟩))) ∧ ∀ V, Below W.heap.size W V → Calls Try.prog 27 #[.pointer (some ⟨p, 0, none⟩), .int .i64 k] V fun e W1 => ∃ r, e = .returned r ∧ (W1.cell? ⟨x, 0, none⟩ = some rv ∧ W1.cell? ⟨b, off + k, none⟩ = some (.pointer (some ⟨a, 0, none⟩))) ∧ Hid (∀ V1, Below W1.heap.size W1 V1 → Calls Try.prog 28 #[.pointer (some ⟨a, 0, none⟩)] V1 fun e W2 => ∃ r2, e = .returned r2 ∧ (W2.cell? ⟨x, 0, none⟩ = some rv ∧ W2.cell? ⟨b, off + k, none⟩ = some (.pointer (some ⟨a, 0, none⟩))) ∧ Hid (∀ V2, Below W2.heap.size W2 V2 → Calls Try.prog 26 #[r, r2] V2 fun e W3 => e = .returned (.bool true) ∧ (W3.cell? ⟨x, 0, none⟩ = some rv ∧ W3.cell? ⟨b, off + k, none⟩ = some (.pointer (some ⟨a, 0, none⟩))) ∧ Hid (Zz n W0 W3 p x m))) := by
  obtain ⟨H, S, rv, lv, A, R, C, h, hl, ht⟩ := id h
  have hk2 : k < R.length := by omega
  obtain ⟨b, off, cap, e, _, _, c2, _⟩ := h.d.place hk2
  have hS : ∀ V, Below W.heap.size W V → V.cell? ⟨x, 0, none⟩ = some rv ∧ V.cell? ⟨b, off + k, none⟩ = some (.pointer (some ⟨A.getD k 0, 0, none⟩)) := fun V hV => ⟨(h.d.below hV).cs.1, cell_then hV c2⟩
  refine ⟨rv, b, off, cap, A.getD k 0, by rw [e, hl], hS, fun V hV => (Sd.local_in (h.below hV).s hk2).mono fun e W1 ⟨r, he, hb1, hi⟩ => ?_⟩
  have g1 := hV.trans (hb1.mono hV.size)
  refine ⟨r, he, hS W1 g1, Lib.hid fun V1 hV1 => ?_⟩
  have g2 := g1.trans (hV1.mono g1.size)
  refine (Dx.ring_all (h.below g2).d hk2 (Below.refl _ _)).mono fun e W2 ⟨r2, he2, ho, hlo, hb2⟩ => ?_
  have g3 := g2.trans (hb2.mono g2.size)
  refine ⟨r2, he2, hS W2 g3, Lib.hid fun V2 hV2 => ?_⟩
  have g4 := g3.trans (hV2.mono g3.size)
  refine (ints_any (((hi.below hV1).below hb2).below hV2) (ho.ints.below hV2)).mono fun e W3 ha => ?_
  obtain ⟨ea, hba⟩ := ha.below
  have g5 := g4.trans (hba.mono g4.size)
  exact ⟨ea, hS W3 g5, Lib.hid ⟨H, S, rv, lv, A, R, C, h.below g5, hl, ht⟩⟩
/-- What the law asks in the end. -/
theorem z_end (h : Zz n W0 W p x m) (hn : n ≤ 64) (hm : m ≤ 100000) : ∃ lv, (∀ V, Below W.heap.size W V → V.cell? ⟨x, 1, none⟩ = some lv) ∧ ∀ V, Below W.heap.size W V → Calls Try.prog 12 #[] V fun e W1 => e = .returned (.bool true) ∧ W1.cell? ⟨x, 1, none⟩ = some lv ∧ Hid (∀ V1, Below W1.heap.size W1 V1 → Calls Try.prog 29 #[.pointer (some ⟨p, 0, none⟩)] V1 fun e W2 => ∃ r, e = .returned r ∧ W2.cell? ⟨x, 1, none⟩ = some lv ∧ Hid (∀ V2, Below W2.heap.size W2 V2 → Calls Try.prog 26 #[r, lv] V2 fun e W3 => e = .returned (.bool true) ∧ W3.cell? ⟨x, 1, none⟩ = some lv ∧ Hid (∀ V3, Below W3.heap.size W3 V3 → Calls Try.prog 27 #[.pointer (some ⟨p, 0, none⟩), .int .i64 (-1)] V3 fun e W4 => ∃ s c, e = .returned (.slice s 0 c) ∧ W4.cell? ⟨x, 1, none⟩ = some lv ∧ Hid (∀ V4, Below W4.heap.size W4 V4 → Calls Try.prog 27 #[.pointer (some ⟨p, 0, none⟩), .int .i64 n] V4 fun e W5 => ∃ s c, e = .returned (.slice s 0 c) ∧ W5.cell? ⟨x, 1, none⟩ = some lv ∧ Hid (Below W0.heap.size W0 W5))))) := by
  obtain ⟨H, S, rv, lv, A, R, C, h, hl, ht⟩ := id h
  have hc := c_le ht
  have hS : ∀ V, Below W.heap.size W V → V.cell? ⟨x, 1, none⟩ = some lv := fun V hV => (h.d.below hV).cs.2.1
  refine ⟨lv, hS, fun V hV => (Sd.told_any V).mono fun e W1 ⟨he, hb1⟩ => ?_⟩
  have g1 := hV.trans (hb1.mono hV.size)
  refine ⟨he, hS W1 g1, Lib.hid fun V1 hV1 => ?_⟩
  have g2 := g1.trans (hV1.mono g1.size)
  refine (Sd.common_any (h.below g2).s (by omega)).mono fun e W2 ⟨r, he2, hb2, hi⟩ => ?_
  have g3 := g2.trans (hb2.mono g2.size)
  refine ⟨r, he2, hS W2 g3, Lib.hid fun V2 hV2 => ?_⟩
  have g4 := g3.trans (hV2.mono g3.size)
  refine (ints_any (hi.below hV2) (h.below g4).d.com).mono fun e W3 ha => ?_
  obtain ⟨ea, hba⟩ := ha.below
  have g5 := g4.trans (hba.mono g4.size)
  refine ⟨ea, hS W3 g5, Lib.hid fun V3 hV3 => ?_⟩
  have g6 := g5.trans (hV3.mono g5.size)
  refine (Sd.local_out (h.below g6).s (-1) (.inl (by omega))).mono fun e W4 hq => ?_
  obtain ⟨he4, hb4⟩ := hq.below
  have g7 := g6.trans (hb4.mono g6.size)
  refine ⟨_, _, he4, hS W4 g7, Lib.hid fun V4 hV4 => ?_⟩
  have g8 := g7.trans (hV4.mono g7.size)
  refine (Sd.local_out (h.below g8).s n (.inr (by omega))).mono fun e W5 hq => ?_
  obtain ⟨he5, hb5⟩ := hq.below
  have g9 := g8.trans (hb5.mono g8.size)
  exact ⟨_, _, he5, hS W5 g9, Lib.hid (h.below g9).s.out⟩
end Zs
end Go.Proofs.Ytpclacaiabbmjaa
