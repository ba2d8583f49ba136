/- Half of a buffer where the other one has no room and nothing goes over; both cases in one; a buffer that a statement made, and all else as it was; the statements' own question after a few answers. -/
import Derived.Test.YtclldajbibhcbaaBuf
namespace Go.Proofs.Ytclldajbibhcbaa
open Go.RowKit Go.Lib Fx Ho Qu
set_option linter.unusedVariables false
namespace Bu
section
variable {p q : Nat} {L M : List Int} {w w' : World} {H H' : Home}
theorem step_copy_no {P : Program} {ops : Array Oper} {o : Oper} {a : Act} {w : World} {K : Act → World → Prop} {Q : Exit → Act → World → Prop} {E : Prop} (hgd : o.guard = none) (d s : Operand) (dT sT : TypeId)
    (ho : o.op = .call { callee := .builtin .copy, args := #[d, s], argTypes := #[dT, sT] }) (elem : TypeId) (hu : P.underlying dT = some (.slice elem)) (hsz : (P.info? elem).map (·.size) = some 1)
    (d1 a1 : Option Addr) (dl dc m c2 : Nat) (hd : a.eval d = .slice d1 dl dc) (hs : a.eval s = .slice a1 m c2) (hle : Nat.min m dl = 0)
    (h : K (a.put o.dst (goInt 0)) w) :
    if Region.wanted o (yielded ops a.tmps) = true then Oper.wp P o a w K Q else E := by
  have hw : Region.wanted o (yielded ops a.tmps) = true := by simp [Region.wanted, hgd]
  rw [if_pos hw]
  have hrun := run_copy_none (P := P) w dT sT o.type elem d1 a1 dl dc m c2 hu hsz hle
  unfold Oper.wp
  simp [execOp, ho, resolve, invoke, builtin, hd, hs, hrun, Result.andThen]
  exact h
set_option maxRecDepth 100000 in
set_option maxHeartbeats 1000000 in
theorem half_none (hl : L.length ≤ 1) (hm : M.length = 32) (hpq : p ≠ q) (h : IsBuf w p L) (h2 : IsBuf w q M) : Calls Try.prog 71 #[.pointer (some ⟨p, 0, none⟩), .pointer (some ⟨q, 0, none⟩)] w (Turns2 (.int .i64 0) w p q L M) := by
  have he := eq_other hpq h h2
  obtain ⟨A, F, h⟩ := h
  obtain ⟨A2, F2, h2⟩ := h2
  have c1 := h.c1
  have d1 := h2.c1
  have key : Hid (w.frozen? ⟨q, 32, none⟩ = false ∧ w.frozen? ⟨p, 32, none⟩ = false ∧
      Hid (∀ W, W.heap = ((w.setCell ⟨q, 32, none⟩ (.int .i64 32)).setCell ⟨p, 32, none⟩ (.int .i64 L.length)).heap → W.os = w.os → W.tape = w.tape → W.output = w.output → Wrote (both p q) w (both p q) W ∧ IsBuf W p L ∧ IsBuf W q M)) := by
    refine ⟨h2.fz 32, h.fz 32, fun W a1 a2 a3 a4 => ?_⟩
    have hc := h2.cut (Nat.le_of_eq hm.symm)
    rw [List.take_of_length_le (by omega)] at hc
    have hw1 : Wrote (at_ q) w (at_ q) (w.setCell ⟨q, 32, none⟩ (.int .i64 (32 : Nat))) := wrote_setCell (H := at_ q) rfl rfl rfl rfl rfl
    have h1 := h.wrote hw1 hpq
    have hd := h1.cut (Nat.le_refl _)
    rw [List.take_of_length_le (Nat.le_refl _)] at hd
    have hw2 : Wrote (at_ p) (w.setCell ⟨q, 32, none⟩ (.int .i64 (32 : Nat))) (at_ p) W := wrote_setCell (H := at_ p) (a := ⟨p, 32, none⟩) (u := .int .i64 L.length) a1 a2 a3 a4 rfl
    exact ⟨(wrote_right hw1).trans (wrote_left hw2), (hd.of_heap a1).is_, (hc.wrote hw2 (fun e => hpq e.symm)).is_⟩
  have hk2 := key.out
  obtain ⟨f1, f2, hfin⟩ := hk2
  rw [hm] at d1
  replace d1 : w.cell? ⟨q, 32, none⟩ = some (.int .i64 32) := d1
  have e1 : (L.length : Int) / 2 = 0 := by omega
  have hl0 : (0 : Int) ≤ (L.length : Int) := by omega
  have hl1 : (L.length : Int) ≤ 1 := by omega
  have hk4 : ¬ 32 = L.length := by omega
  have hk5 : (L.length : Int) ≤ 32 := by omega
  have hk6 : L.length ≤ 32 := by omega
  have hwk : IntKind.i64.wrap (L.length : Int) = (L.length : Int) := IntWalk.i64_in _ ⟨by omega, by omega⟩
  clear h h2 key hm
  generalize L.length = l at *
  unfold Turns2
  go_enter Try.func71, Try.ntmps71
  go_wp2_with fail
  go_region_law (refine step_copy_no rfl (.tmp 36) (.tmp 50) 26 26 rfl 3 Try.underlying26 (by kernel_rfl) (some ⟨q, 0, none⟩) (some ⟨p, l, none⟩) 0 0 0 (32 - l) rfl rfl rfl ?_)
  all_goals go_wp2_with fail
  all_goals go_ret
  all_goals exact ⟨rfl, hfin.out _ rfl rfl rfl rfl⟩
theorem half_ok {n k : Nat} (hn : L.length / 2 = n) (hk : L.length = k + n) (hroom : n + M.length ≤ 32) (hpq : p ≠ q) (h : IsBuf w p L) (h2 : IsBuf w q M) : Calls Try.prog 71 #[.pointer (some ⟨p, 0, none⟩), .pointer (some ⟨q, 0, none⟩)] w (Turns2 (.int .i64 n) w p q (L.take k) (M ++ L.drop k)) := by
  by_cases hm : M.length < 32
  · exact half_any hn hk hroom hpq h h2 hm
  · obtain rfl : n = 0 := by omega
    have hl : L.take k = L := List.take_of_length_le (by omega)
    have hd : L.drop k = [] := List.drop_eq_nil_of_le (by omega)
    rw [hl, hd, List.append_nil]
    exact half_none (by omega) (by have := h2.small; omega) hpq h h2
end
/-- Buffers that a statement made: the first of them, and all else as it was. -/
structure Bs (W0 w : World) (p : Nat) (L : List Int) : Prop where
  b : IsBuf w p L
  lo : W0.heap.size ≤ p
  bel : Below W0.heap.size W0 w
namespace Bs
variable {W0 w w' : World} {p : Nat} {L L' : List Int} {H' : Home}
theorem turns (h : Bs W0 w p L) (ht : Wrote (at_ p) w (at_ p) w') (hr : IsBuf w' p L') : Bs W0 w' p L' :=
  ⟨hr, h.lo, ht.below (fun k hk => by rw [show k = p from hk]; exact h.lo) h.bel⟩
theorem below (h : Bs W0 w p L) (hb : Below w.heap.size w w') : Bs W0 w' p L := ⟨h.b.below hb, h.lo, h.bel.trans (hb.mono h.bel.size)⟩
/-- What lies above the buffer was written. -/
theorem above {lo : Nat} (h : Bs W0 w p L) (hb : Below lo w w') (hl : p < lo) : Bs W0 w' p L :=
  ⟨h.b.wrote (H := fun k => lo ≤ k) (H' := fun k => lo ≤ k) ⟨hb.os, hb.tape, hb.output, hb.size, fun k _ hk => hb.block k (by omega), fun k hk => Or.inl hk⟩ (by omega), h.lo, h.bel.trans (hb.mono (by have := h.lo; omega))⟩
end Bs
section
variable {W0 w : World} {p : Nat} {L : List Int}
theorem bs_new (w : World) : Calls Try.prog 66 #[] w fun e w' => e = .returned (.pointer (some ⟨w.heap.size, 0, none⟩)) ∧ Bs w w' w.heap.size [] :=
  (new_any w).mono fun _ _ ⟨he, hb, hr⟩ => ⟨he, hr, Nat.le_refl _, hb⟩
theorem bs_put (g : Int) (h : Bs W0 w p L) (hl : L.length < 32) : Calls Try.prog 67 #[.pointer (some ⟨p, 0, none⟩), .int .i64 g] w fun e w' => e = .returned (.bool true) ∧ Bs W0 w' p (L ++ [g]) :=
  (put_room g hl h.b).mono fun _ _ ⟨he, ht, hr⟩ => ⟨he, h.turns ht hr⟩
theorem bs_get {n : Nat} (hn : L.length = n + 1) (h : Bs W0 w p L) : Calls Try.prog 69 #[.pointer (some ⟨p, 0, none⟩)] w fun e w' => e = .returned (.tuple #[.int .i64 (L.getD n 0), .bool true]) ∧ Bs W0 w' p (L.take n) :=
  (get_some hn h.b).mono fun _ _ ⟨he, ht, hr⟩ => ⟨he, h.turns ht hr⟩
theorem bs_all (h : Bs W0 w p L) : Calls Try.prog 75 #[.pointer (some ⟨p, 0, none⟩)] w fun e w' => ∃ v', e = .returned v' ∧ Bs W0 w' p L ∧ Ints w' (fun k => w.heap.size ≤ k) v' L ∧ Below w.heap.size w w' :=
  (all_any h.b).mono fun _ _ ⟨v', he, hb, ho⟩ => ⟨v', he, h.below hb, (ints_of_owns ho).wider (fun k hk _ => (ho.lt k hk).1), hb⟩
end
/-- Two buffers that a statement made, and all else as it was. -/
structure Bs2 (W0 w : World) (p q : Nat) (L M : List Int) : Prop where
  a : IsBuf w p L
  b : IsBuf w q M
  ne : p ≠ q
  lo : W0.heap.size ≤ p
  lo2 : W0.heap.size ≤ q
  bel : Below W0.heap.size W0 w
namespace Bs2
variable {W0 w w' : World} {p q : Nat} {L L' M M' : List Int}
theorem swap (h : Bs2 W0 w p q L M) : Bs2 W0 w q p M L := ⟨h.b, h.a, fun e => h.ne e.symm, h.lo2, h.lo, h.bel⟩
theorem turns (h : Bs2 W0 w p q L M) (ht : Wrote (at_ p) w (at_ p) w') (hr : IsBuf w' p L') : Bs2 W0 w' p q L' M :=
  ⟨hr, h.b.wrote ht (fun e => h.ne e.symm), h.ne, h.lo, h.lo2, ht.below (fun k hk => by rw [show k = p from hk]; exact h.lo) h.bel⟩
theorem turns2 (h : Bs2 W0 w p q L M) (ht : Wrote (both p q) w (both p q) w') (hr : IsBuf w' p L') (hr2 : IsBuf w' q M') : Bs2 W0 w' p q L' M' :=
  ⟨hr, hr2, h.ne, h.lo, h.lo2, ht.below (fun k hk => hk.elim (fun e => by rw [e]; exact h.lo) (fun e => by rw [e]; exact h.lo2)) h.bel⟩
theorem below (h : Bs2 W0 w p q L M) (hb : Below w.heap.size w w') : Bs2 W0 w' p q L M := ⟨h.a.below hb, h.b.below hb, h.ne, h.lo, h.lo2, h.bel.trans (hb.mono h.bel.size)⟩
end Bs2
section
variable {W0 w : World} {p q : Nat} {L M : List Int}
theorem bs2_new (h : Bs W0 w p L) : Calls Try.prog 66 #[] w fun e w' => e = .returned (.pointer (some ⟨w.heap.size, 0, none⟩)) ∧ Bs2 W0 w' p w.heap.size L [] :=
  (new_any w).mono fun _ _ ⟨he, hb, hr⟩ => ⟨he, h.b.below hb, hr, Nat.ne_of_lt h.b.lt, h.lo, h.bel.size, h.bel.trans (hb.mono h.bel.size)⟩
theorem bs2_put (g : Int) (hl : L.length < 32) (h : Bs2 W0 w p q L M) : Calls Try.prog 67 #[.pointer (some ⟨p, 0, none⟩), .int .i64 g] w fun e w' => e = .returned (.bool true) ∧ Bs2 W0 w' p q (L ++ [g]) M :=
  (put_room g hl h.a).mono fun _ _ ⟨he, ht, hr⟩ => ⟨he, h.turns ht hr⟩
theorem bs2_get {n : Nat} (hn : L.length = n + 1) (h : Bs2 W0 w p q L M) : Calls Try.prog 69 #[.pointer (some ⟨p, 0, none⟩)] w fun e w' => e = .returned (.tuple #[.int .i64 (L.getD n 0), .bool true]) ∧ Bs2 W0 w' p q (L.take n) M :=
  (get_some hn h.a).mono fun _ _ ⟨he, ht, hr⟩ => ⟨he, h.turns ht hr⟩
theorem bs2_half {n k : Nat} (hn : L.length / 2 = n) (hk : L.length = k + n) (hroom : n + M.length ≤ 32) (h : Bs2 W0 w p q L M) : Calls Try.prog 71 #[.pointer (some ⟨p, 0, none⟩), .pointer (some ⟨q, 0, none⟩)] w fun e w' => e = .returned (.int .i64 n) ∧ Bs2 W0 w' p q (L.take k) (M ++ L.drop k) :=
  (half_ok hn hk hroom h.ne h.a h.b).mono fun _ _ ⟨he, ht, hr, hr2⟩ => ⟨he, h.turns2 ht hr hr2⟩
end
theorem ints_lit (w : World) (zs : List Int) (n : Nat) (hn : zs.length = n) (hs : n ≤ 1000) {A : Array Value} (hA : A.toList = cells zs) : Ints (w.alloc (.cells A 3)) (fun k => w.heap.size ≤ k) (.slice (some ⟨w.heap.size, 0, none⟩) n n) zs := by
  have h := World.ownsRow_lit (base := w.heap.size) (e := 3) (size := 1) w A n (Nat.le_refl _) (by unfold maxLen; omega) (by rw [← Array.length_toList, hA, cells_len, hn, Nat.mul_one])
  rw [hA] at h
  exact (ints_of_owns h).wider (fun k hk _ => (h.lt k hk).1)
set_option maxRecDepth 100000 in
set_option maxHeartbeats 2000000 in
theorem told_any (w : World) : Calls Try.prog 74 #[] w fun e w' => e = .returned (.bool true) ∧ Below w.heap.size w w' := by
  have cn := bs_new w
  obtain ⟨p, hp⟩ : ∃ p, w.heap.size = p := ⟨_, rfl⟩
  rw [hp] at cn
  clear hp
  go_enter Try.func74, Try.ntmps74
  go_wp2_with fail
  with_reducible refine Calls.mono (cn) ?_
  rintro e w1 ⟨rfl, hs1⟩
  have cs := bs_put 1 hs1 (by decide)
  clear cn
  go_wp2_with fail
  with_reducible refine Calls.mono (cs) ?_
  rintro e w2 ⟨rfl, hs2⟩
  clear hs1 cs
  have cs := bs_put 2 hs2 (by decide)
  go_wp2_with fail
  with_reducible refine Calls.mono (cs) ?_
  rintro e w3 ⟨rfl, hs3⟩
  clear hs2 cs
  have cs := bs_get (n := 1) rfl hs3
  go_wp2_with fail
  with_reducible refine Calls.mono (cs) ?_
  rintro e w4 ⟨rfl, hs4⟩
  clear hs3 cs
  have cl := len_any hs4.b
  have cs := bs_all hs4
  go_wp2_with fail
  with_reducible refine Calls.mono (cl) ?_
  rintro e w4' ⟨rfl, rfl⟩
  go_wp2_with fail
  with_reducible refine Calls.mono (cs) ?_
  rintro e w5 ⟨v5, rfl, hs5, hi5, _⟩
  clear hs4 cs cl
  have hi5 : Ints w5 (fun k => w4.heap.size ≤ k) v5 [1] := hi5
  have hA : Below w5.heap.size w5 (w5.alloc (.cells #[.int .i64 1] 3)) := below_alloc (Below.refl _ _) _
  have hi7 := hi5.below hA
  have hl7 := ints_lit w5 [1] 1 rfl (by omega) (A := #[.int .i64 1]) rfl
  have ci := ints_any hi7 hl7
  have hs7 := Lib.hid (hs5.below hA)
  obtain ⟨sp5, cap5, rfl, _⟩ := hi5
  clear hA hi7 hl7 hs5
  go_wp2_with fail
  with_reducible refine Calls.mono (ci) ?_
  rintro e w8 ⟨rfl, j, rfl⟩
  have hfin := Lib.hid (hs7.out.below (below_drewN (Below.refl _ _) j)).bel
  clear ci hs7
  go_wp2_with fail
  go_ret
  exact ⟨rfl, hfin.out⟩
end Bu
end Go.Proofs.Ytclldajbibhcbaa
