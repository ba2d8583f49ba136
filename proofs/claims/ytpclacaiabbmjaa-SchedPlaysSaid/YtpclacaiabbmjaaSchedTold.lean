/- Drop and Global of package sched; calls of none; the law's own told. -/
import Derived.Test.YtpclacaiabbmjaaSchedLast
import Derived.StillTailTactics
import Derived.Deep.RegionHeld3
import Derived.Deep.RegionWith
namespace Go.Proofs.Ytpclacaiabbmjaa
open Go.RowKit Go.Lib Fx Ho Gr
set_option linter.unusedVariables false
namespace Sd
variable {w w' W W0 : World} {p q : Nat} {rv qv : Value} {A : List Nat} {R : List Rg} {C : List Int} {H H' : Home}
set_option maxRecDepth 100000 in
theorem pick_nil (a b c : Int) (w : World) : Calls Try.prog 18 #[.pointer none, .int .i64 a, .int .i64 b, .int .i64 c] w (Still (.tuple #[.int .i64 0, .bool false]) w) := by
  have cr := ring_nil a w
  go_enter Try.func18, Try.ntmps18
  go_wp2_with fail
  with_reducible refine Calls.mono (cr) ?_
  rintro e w2 ⟨rfl, rfl⟩
  go_wp2_with fail
  go_ret2
  exact ⟨rfl, rfl⟩
set_option maxRecDepth 100000 in
theorem slen_nil (w : World) : Calls Try.prog 24 #[.pointer none] w (Still (.int .i64 0) w) := by
  go_enter Try.func24, Try.ntmps24
  go_wp2_with fail
  go_ret
  exact ⟨rfl, rfl⟩
set_option maxRecDepth 100000 in
theorem new_bad (n : Int) (h : n < 1 ∨ 64 < n) (w : World) : Calls Try.prog 11 #[.int .i64 n] w (Still (.tuple #[.pointer none, .int .i64 1]) w) := by
  by_cases h1 : n < 1
  · go_enter Try.func11, Try.ntmps11
    go_wp2_with fail
    go_ret2
    exact ⟨rfl, rfl⟩
  · have h2 : 64 < n := by omega
    clear h
    go_enter Try.func11, Try.ntmps11
    go_wp2_with fail
    go_ret2
    exact ⟨rfl, rfl⟩
set_option maxRecDepth 100000 in
/-- One behind the common queue. -/
theorem global_any (h : Ss W0 W p H R C) (g : Int) (hs : C.length < 900000) : Calls Try.prog 16 #[.pointer (some ⟨p, 0, none⟩), .int .i64 g] W (Step (.tuple #[]) W0 W p H R (C ++ [g])) := by
  obtain ⟨q, rv, qv, A, h1, hl, hb0, rfl⟩ := h
  obtain ⟨c0, c1⟩ := h1.cs
  have hb1 := below_alloc (Below.refl _ W) (.cells #[.int .i64 g] 3)
  have cp : Calls Try.prog 60 #[.pointer (some ⟨q, 0, none⟩), .slice (some ⟨W.heap.size, 0, none⟩) 1 1] (W.alloc (.cells #[.int .i64 g] 3)) fun e w' => e = .returned (.tuple #[]) ∧ Hid (∀ e', e' = .returned (.tuple #[]) → Step (.tuple #[]) W0 W p (home p q rv qv A) R (C ++ [g]) e' w') := by
    have h2 := h1.below hb1
    refine (Qu.put_any _ h2.com (Ri.ints_lit W [g] 1 rfl (by omega) (A := #[.int .i64 g]) rfl) (by simp; omega)).mono fun e w' ⟨g1, v', g2, g3⟩ => ⟨g1, Lib.hid fun e' he => ?_⟩
    obtain ⟨k1, k2⟩ := h2.queue g2 g3
    exact Ss.step hl hb0 he k1 ((Wrote.of_below hb1).trans k2)
  clear h1 hl hb0 hb1
  go_enter Try.func16, Try.ntmps16
  go_wp2_with fail
  with_reducible refine Calls.mono (cp) ?_
  rintro e w2 ⟨rfl, hfin⟩
  go_wp2_with fail
  go_end0
  exact hfin.out _ rfl
set_option maxRecDepth 100000 in
theorem drop_out (h : Ss W0 W p H R C) (i : Int) (hi : i < 0 ∨ (R.length : Int) ≤ i) : Calls Try.prog 20 #[.pointer (some ⟨p, 0, none⟩), .int .i64 i] W (Ans (.int .i64 0) W) := by
  obtain ⟨q, rv, qv, A, h1, _⟩ := h
  have cr := ring_out h1 i hi
  clear h1 hi
  go_enter Try.func20, Try.ntmps20
  go_wp2_with fail
  with_reducible refine Calls.mono (cr) ?_
  rintro e w2 ⟨rfl, n, rfl⟩
  have cl := Ri.len_nil (W.drewN n)
  clear cr
  go_wp2_with fail
  with_reducible refine Calls.mono (cl) ?_
  rintro e w3 ⟨rfl, rfl⟩
  clear cl
  go_wp2_with fail
  go_loopw [15] (fun x wr => x = .int .i64 0 ∧ wr = W.drewN n) (fun x _ => 0)
  case atStart => exact ⟨rfl, rfl⟩
  case round =>
    obtain ⟨rfl, rfl⟩ := hrel
    go_wp2_with fail
    go_ret
    exact ⟨rfl, n, rfl⟩
/-- A ring after so many went out. -/
def getN (r : Rg) : Nat → Rg
  | 0 => r
  | k + 1 => (rGet (getN r k)).2
theorem getN_all (r : Rg) : ∀ k, rAll (getN r k) = (rAll r).drop k
  | 0 => rfl
  | k + 1 => by
    have h := getN_all r k
    show rAll (rGet (getN r k)).2 = _
    generalize getN r k = s at *
    obtain ⟨nx, L⟩ := s
    have e : rAll (rGet (nx, L)).2 = (rAll (nx, L)).tail := by
      cases nx with
      | some y => rfl
      | none => cases L with
        | nil => rfl
        | cons g T => rfl
    rw [e, h, List.tail_drop]
theorem get_head {r : Rg} {g : Int} {T : List Int} (h : rAll r = g :: T) : rGet r = (some g, (none, T)) := by
  unfold rGet; rw [h]
set_option maxRecDepth 100000 in
set_option maxHeartbeats 2000000 in
/-- A P gives up all of its own. -/
theorem drop_in (h : Ss W0 W p H R C) {i : Nat} (hi : i < R.length) (hs : C.length ≤ 800000) : Calls Try.prog 20 #[.pointer (some ⟨p, 0, none⟩), .int .i64 i] W (Step (.int .i64 ((rAll (R.getD i rg0)).length : Nat)) W0 W p H (R.set i (getN (R.getD i rg0) (rAll (R.getD i rg0)).length)) (C ++ rAll (R.getD i rg0))) := by
  have hsm : (rAll (R.getD i rg0)).length ≤ 257 := by
    have := h.small hi
    generalize R.getD i rg0 = r at *
    obtain ⟨nx, L⟩ := r
    unfold rAll Ri.allOf; cases nx <;> simp at * <;> omega
  obtain ⟨q, rv, qv, A, h1, hl, hb0, rfl⟩ := h
  have cr := ring_in h1 hi
  have cl : Hid (∀ n, Calls Try.prog 70 #[.pointer (some ⟨A.getD i 0, 0, none⟩)] (W.drewN n) (Still (.int .i64 ((rAll (R.getD i rg0)).length : Nat)) (W.drewN n))) := Lib.hid fun n => rlen_any (h1.draws n) hi
  obtain ⟨L, hL⟩ : ∃ L, rAll (R.getD i rg0) = L := ⟨_, rfl⟩
  obtain ⟨n, hn⟩ : ∃ n, L.length = n := ⟨_, rfl⟩
  have hn257 : n ≤ 257 := by rw [← hn, ← hL]; exact hsm
  have key : Hid (∀ (k : Nat), k < n → ∀ (wr : World) (qv2 : Value), IsS wr p q rv qv2 A (R.set i (getN (R.getD i rg0) k)) (C ++ L.take k) → wr.cell? ⟨p, 1, none⟩ = some (.pointer (some ⟨q, 0, none⟩)) ∧ Calls Try.prog 71 #[.pointer (some ⟨A.getD i 0, 0, none⟩)] wr fun e w2 => e = .returned (.tuple #[.int .i64 (L.getD k 0), .bool true]) ∧ w2.cell? ⟨p, 1, none⟩ = some (.pointer (some ⟨q, 0, none⟩)) ∧
      Hid (Calls Try.prog 60 #[.pointer (some ⟨q, 0, none⟩), .slice (some ⟨w2.heap.size, 0, none⟩) 1 1] (w2.alloc (.cells #[.int .i64 (L.getD k 0)] 3)) fun e w3 => e = .returned (.tuple #[]) ∧ Hid (∃ qv3, Wrote (home p q rv qv2 A) wr (home p q rv qv3 A) w3 ∧ IsS w3 p q rv qv3 A (R.set i (getN (R.getD i rg0) (k + 1))) (C ++ L.take (k + 1))))) := Lib.hid fun k hk wr qv2 hS => by
    have hi2 : i < (R.set i (getN (R.getD i rg0) k)).length := by simpa using hi
    have hgd : (R.set i (getN (R.getD i rg0) k)).getD i rg0 = getN (R.getD i rg0) k := by rw [List.getD_eq_getElem?_getD, List.getElem?_set_self hi]; rfl
    have hra := getN_all (R.getD i rg0) k
    rw [hL] at hra
    have hdr : L.drop k = L.getD k 0 :: L.drop (k + 1) := by
      rw [List.drop_eq_getElem_cons (by omega), List.getD_eq_getElem?_getD, List.getElem?_eq_getElem (by omega)]; rfl
    rw [hdr] at hra
    have hget := get_head hra
    have hnx : getN (R.getD i rg0) (k + 1) = (none, L.drop (k + 1)) := by show (rGet (getN (R.getD i rg0) k)).2 = _; rw [hget]
    have htk : L.take (k + 1) = L.take k ++ [L.getD k 0] := by
      rw [List.take_succ_eq_append_getElem (by omega), List.getD_eq_getElem?_getD, List.getElem?_eq_getElem (by omega)]; rfl
    have hri := hS.rg i hi2
    rw [hgd] at hri
    have cg := rget_any (getN (R.getD i rg0) k) wr hri
    rw [hget] at cg
    refine ⟨hS.cs.2, cg.mono fun e w2 ⟨g1, g2, g3⟩ => ?_⟩
    obtain ⟨k1, k2⟩ := hS.ring hi2 _ g2 g3
    rw [List.set_set] at k1
    refine ⟨g1, k1.cs.2, Lib.hid ?_⟩
    have hb2 := below_alloc (Below.refl _ w2) (.cells #[.int .i64 (L.getD k 0)] 3)
    have k3 := k1.below hb2
    have hCl : (C ++ L.take k).length ≤ 900000 := by rw [List.length_append, List.length_take]; omega
    refine (Qu.put_any _ k3.com (Ri.ints_lit w2 [L.getD k 0] 1 rfl (by omega) (A := #[.int .i64 (L.getD k 0)]) rfl) (by rw [List.length_singleton]; omega)).mono fun e w3 ⟨d1, v4, d2, d3⟩ => ⟨d1, Lib.hid ?_⟩
    obtain ⟨k4, k5⟩ := k3.queue d2 d3
    refine ⟨v4, k2.trans ((Wrote.of_below hb2).trans k5), ?_⟩
    rw [hnx, htk, ← List.append_assoc]; exact k4
  have hfin : Hid (∀ (e : Ending) (w3 : World) (qv3 : Value), Wrote (home p q rv qv A) W (home p q rv qv3 A) w3 → IsS w3 p q rv qv3 A (R.set i (getN (R.getD i rg0) n)) (C ++ L.take n) → e = .returned (.int .i64 n) → Step (.int .i64 n) W0 W p (home p q rv qv A) (R.set i (getN (R.getD i rg0) n)) (C ++ L) e w3) := Lib.hid fun e w3 qv3 a b c => by
    rw [show L.take n = L by rw [← hn]; exact List.take_length] at b
    exact Ss.step hl hb0 c b a
  have hst : Hid (∀ m, IsS (W.drewN m) p q rv qv A (R.set i (getN (R.getD i rg0) 0)) (C ++ L.take 0) ∧ Wrote (home p q rv qv A) W (home p q rv qv A) (W.drewN m)) := Lib.hid fun m => by
    refine ⟨?_, (Wrote.refl _ _).drewN m⟩
    show IsS _ p q rv qv A (R.set i (R.getD i rg0)) (C ++ [])
    rw [set_self hi, List.append_nil]; exact h1.draws m
  rw [hL] at cl hsm ⊢
  rw [hn] at cl hsm ⊢
  generalize hRf : R.set i (getN (R.getD i rg0) n) = Rf at hfin ⊢
  replace hRf := Lib.hid hRf
  clear h1 hl hb0 hn hL
  generalize A.getD i 0 = ad at *
  go_enter Try.func20, Try.ntmps20
  go_wp2_with fail
  with_reducible refine Calls.mono (cr) ?_
  rintro e w2 ⟨rfl, m, rfl⟩
  have cl := cl.out m
  obtain ⟨hst, hw0⟩ := hst.out m
  replace hst := Lib.hid hst
  replace hw0 := Lib.hid hw0
  clear cr
  generalize W.drewN m = w1 at *
  go_wp2_with fail
  with_reducible refine Calls.mono (cl) ?_
  rintro e w2 ⟨rfl, rfl⟩
  clear cl
  go_wp2_with fail
  go_loopw [15] (fun x wr => ∃ (k : Nat) (qv2 : Value), x = .int .i64 k ∧ k ≤ n ∧ Hid (Wrote (home p q rv qv A) W (home p q rv qv2 A) wr) ∧ Hid (IsS wr p q rv qv2 A (R.set i (getN (R.getD i rg0) k)) (C ++ L.take k))) (fun x _ => (n - (RowKit.intOf x).toNat))
  case atStart => exact ⟨0, qv, rfl, by omega, hw0, hst⟩
  case round =>
    clear hst hw0
    obtain ⟨k, qv2, rfl, k1, hw, hS⟩ := hrel
    by_cases hk : k < n
    · have i2 : (k : Int) < (n : Int) := by omega
      obtain ⟨c1, cg⟩ := key.out k hk wr qv2 hS.out
      clear key hfin hS
      generalize L.getD k 0 = x at *
      go_wp2_with fail
      with_reducible refine Calls.mono cg ?_
      rintro e w3 ⟨rfl, c2, cp⟩
      have cp := cp.out
      clear cg c1
      go_wp2_with fail
      with_reducible refine Calls.mono cp ?_
      rintro e w4 ⟨rfl, hn4⟩
      clear cp c2
      go_wp2_with fail
      obtain ⟨qv3, n1, n2⟩ := hn4.out
      go_roundw
      case rel => exact ⟨k + 1, qv3, by go_num, by omega, Lib.hid (hw.out.trans n1), Lib.hid n2⟩
      case measure => simp [RowKit.intOf]; omega
    · obtain rfl : k = n := by omega
      have i2 : ¬ ((k : Int) < (k : Int)) := by omega
      clear key
      go_wp2_with fail
      go_ret
      exact hfin.out _ wr qv2 hw.out (hRf.out ▸ hS.out) rfl
set_option maxRecDepth 100000 in
set_option maxHeartbeats 2000000 in
theorem told_any (w : World) : Calls Try.prog 12 #[] w (AnsB (.bool true) w) := by
  have cn := new_any 2 (by omega) (by omega) w
  go_enter Try.func12, Try.ntmps12
  go_wp2_with fail
  with_reducible refine Calls.mono (cn) ?_
  rintro e w1 ⟨p, H, rfl, hs⟩
  clear cn
  have cb := new_bad 0 (by omega) w1
  go_wp2_with fail
  with_reducible refine Calls.mono (cb) ?_
  rintro e w2 ⟨rfl, rfl⟩
  clear cb
  have cy := ready_in hs (i := 0) (by simp) 5 true (by simp)
  replace cy : Calls Try.prog 14 #[.pointer (some ⟨p, 0, none⟩), .int .i64 0, .int .i64 5, .bool true] w1 (Step (.int .i64 0) w w1 p H [(some 5, []), rg0] []) := cy
  clear hs
  go_wp2_with fail
  with_reducible refine Calls.mono (cy) ?_
  rintro e w2 ⟨rfl, H2, -, hs⟩
  have ch := where_any hs 5 (by simp)
  rw [show whereV [(some 5, []), rg0] [] 5 = .tuple #[.int .i64 0, .bool true] by simp [whereV, findR, rAll, Ri.allOf, rg0]] at ch
  clear cy
  replace hs := Lib.hid hs
  go_wp2_with fail
  with_reducible refine Calls.mono (ch) ?_
  rintro e w3 ⟨rfl, hb⟩
  have hs := hs.out.below hb
  clear ch hb
  have cp := pick_in hs (i := 1) (by simp) 1 0 (by simp) (by simp)
  replace cp : Calls Try.prog 18 #[.pointer (some ⟨p, 0, none⟩), .int .i64 1, .int .i64 1, .int .i64 0] w3 (Step (.tuple #[.int .i64 5, .bool true]) w w3 p H2 [rg0, rg0] []) := by
    rw [show pickS [(some 5, []), rg0] [] 1 1 0 = (some 5, [rg0, rg0], []) by decide] at cp
    exact cp
  clear hs
  go_wp2_with fail
  with_reducible refine Calls.mono (cp) ?_
  rintro e w4 ⟨rfl, H4, -, hs⟩
  clear cp
  have ch := where_any hs 5 (by simp)
  rw [show whereV [rg0, rg0] [] 5 = .tuple #[.int .i64 0, .bool false] by simp [whereV, findR, rAll, Ri.allOf, rg0]] at ch
  replace hs := Lib.hid hs
  go_wp2_with fail
  with_reducible refine Calls.mono (ch) ?_
  rintro e w5 ⟨rfl, hb⟩
  have hs := hs.out.below hb
  clear ch hb
  have cl := len_any hs (by simp) (by simp)
  replace cl : Calls Try.prog 24 #[.pointer (some ⟨p, 0, none⟩)] w5 (Ans (.int .i64 0) w5) := cl
  have hb := hs.out
  clear hs
  go_wp2_with fail
  with_reducible refine Calls.mono (cl) ?_
  rintro e w6 ⟨rfl, m, rfl⟩
  have hb := below_drewN hb m
  clear cl
  generalize w5.drewN m = w6 at *
  go_wp2_with fail
  go_ret
  exact ⟨rfl, hb⟩
end Sd
end Go.Proofs.Ytpclacaiabbmjaa
