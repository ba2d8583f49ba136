/- The library's search for the least number that will do, of a test that rises; how many words are owed. -/
import Derived.Test.YtmngaedcckjfoaaCreditTold
namespace Go.Proofs.Ytmngaedcckjfoaa
open Go.RowKit Go.Lib Fx Ho Mp
set_option linter.unusedVariables false
namespace Cr
variable {w w' W W0 : World} {p n : Nat} {mp : Option Nat} {ratio bank : Int} {m : Int → Sm} {H H' : Home}
set_option maxRecDepth 100000 in
set_option maxHeartbeats 2000000 in
/-- The least number below N that will do, N if none does. -/
theorem search_any {F : Nat} {caps : Array Value} (P : Int → Bool) (N L : Nat) (hN : N ≤ 9223372036854775807) (hL : L ≤ N) (hno : ∀ x : Nat, x < L → P x = false) (hyes : ∀ x : Nat, L ≤ x → x < N → P x = true)
    (hF : ∀ (x : Nat) (W : World), x < N → Below w.heap.size w W → Calls Try.prog F (#[.int .i64 x] ++ caps) W (Ans (.bool (P x)) W))
    (hE : ∀ (x : Int) (W : World), Sem.run Try.prog (callFunc F (#[.int .i64 x] ++ caps)) W = .ok (.enter F (#[.int .i64 x] ++ caps)) W) : Calls Try.prog 93 #[.int .i64 N, .func (.func F) #[] caps] w (Ans (.int .i64 L) w) := by
  replace hno := Lib.hid hno
  replace hyes := Lib.hid hyes
  replace hF := Lib.hid hF
  go_enter Try.func93, Try.ntmps93
  go_wp2_with fail
  go_loopw [5, 6] (fun u v wr => ∃ i j : Nat, u = .int .i64 i ∧ v = .int .i64 j ∧ i ≤ L ∧ L ≤ j ∧ j ≤ N ∧ ∃ k, wr = w.drewN k) (fun u v _ => ((RowKit.intOf v).toNat - (RowKit.intOf u).toNat))
  case atStart => exact ⟨0, N, rfl, rfl, by omega, hL, Nat.le_refl _, 0, rfl⟩
  case round =>
    obtain ⟨i, j, rfl, rfl, iL, Lj, jN, k, rfl⟩ := hrel
    by_cases hij : i < j
    · have i2 : (i : Int) < (j : Int) := by omega
      obtain ⟨h, hh⟩ : ∃ h : Nat, (i + j) / 2 = h := ⟨_, rfl⟩
      have h1 : i ≤ h := by omega
      have h2 : h < j := by omega
      have e1 : IntKind.u64.wrap (wrap64 ((i : Int) + (j : Int))) = (i : Int) + (j : Int) := by rw [IntKind.wrap_u64]; unfold wrap64; omega
      have e2 : ((i : Int) + (j : Int)) / 2 = (h : Int) := by omega
      have c := hF.out h (w.drewN k) (by omega) (below_drewN (Below.refl _ _) k)
      have hlt : Hid (P h = false → h < L) := Lib.hid fun e => by
        rcases Nat.lt_or_ge h L with h3 | h3
        · exact h3
        · rw [hyes.out h h3 (by omega)] at e; cases e
      have hge : Hid (P h = true → L ≤ h) := Lib.hid fun e => by
        rcases Nat.lt_or_ge h L with h3 | h3
        · rw [hno.out h h3] at e; cases e
        · exact h3
      obtain ⟨b, hb⟩ : ∃ b, P h = b := ⟨_, rfl⟩
      rw [hb] at c hlt hge
      clear hb hF hno hyes hh
      go_wp2_with fail
      with_reducible refine Calls.mono c ?_
      rintro e wx ⟨rfl, k2, rfl⟩
      clear c
      cases b with
      | true =>
        have h3 := hge.out rfl
        clear hlt hge e1 e2
        go_wp2_with fail
        go_roundw
        case rel => exact ⟨i, h, rfl, rfl, iL, h3, by omega, k + k2, by first | rfl | (rw [World.drewN_drewN])⟩
        case measure => simp [RowKit.intOf]; omega
      | false =>
        have h3 := hlt.out rfl
        clear hlt hge e1 e2
        go_wp2_with fail
        go_roundw
        case rel => exact ⟨h + 1, j, by go_num, rfl, by omega, Lj, jN, k + k2, by first | rfl | (rw [World.drewN_drewN])⟩
        case measure => simp [RowKit.intOf]; omega
    · obtain rfl : i = L := by omega
      obtain rfl : i = j := by omega
      have i2 : ¬ ((i : Int) < (i : Int)) := by omega
      clear hF hno hyes
      go_wp2_with fail
      go_ret
      exact ⟨rfl, k, rfl⟩
set_option maxRecDepth 100000 in
set_option maxHeartbeats 1000000 in
/-- The test of Owed: do so many words more cover what is aimed at? -/
theorem enough_any (h : IsC w p ratio bank mp n m) {b0 b1 b2 : Nat} {s aim : Int} (c0 : w.cell? ⟨b0, 0, none⟩ = some (.pointer (some ⟨p, 0, none⟩))) (c1 : w.cell? ⟨b1, 1, none⟩ = some (.int .i64 s)) (c2 : w.cell? ⟨b2, 0, none⟩ = some (.int .i64 aim)) (hs : inI s) (x : Int) (hx : inI x) :
    Calls Try.prog 94 #[.int .i64 x, .pointer (some ⟨b0, 0, none⟩), .pointer (some ⟨b1, 0, none⟩), .pointer (some ⟨b2, 0, none⟩)] w (Ans (.bool (decide (aim ≤ cov ratio (addI s x)))) w) := by
  have ca : ∀ q, Calls Try.prog 85 #[.int .i64 s, .int .i64 x] (w.drewN q) (Ans (.int .i64 (addI s x)) (w.drewN q)) := fun q => add_any s x hs hx (w.drewN q)
  have cv : ∀ q, Calls Try.prog 87 #[.pointer (some ⟨p, 0, none⟩), .int .i64 (addI s x)] (w.drewN q) (Ans (.int .i64 (cov ratio (addI s x))) (w.drewN q)) := fun q => covered_any (h.below (below_drewN (Below.refl _ _) q)) _ (clampI_in _)
  generalize addI s x = sx at *
  generalize cov ratio sx = c at *
  clear h hs hx
  go_enter Try.func94, Try.ntmps94
  go_wp2_with fail
  go_quiet (first | (go_at_call 85; exact quiet_ans1 (ca _)) | (go_at_call 87; exact quiet_ans1 (cv _)))
  go_wp2_with fail
  go_ret
  exact ⟨rfl, _, rfl⟩
theorem add_mono {s x y : Int} (h : x ≤ y) : addI s x ≤ addI s y := clamp_mono (by omega)
set_option maxRecDepth 100000 in
set_option maxHeartbeats 2000000 in
/-- What is owed: the least number of words that covers one word more. -/
theorem owed_any (h : Sc W0 W p H ratio bank n m) (hr : 0 < ratio) {g : Int} (hg : (Lit.int .i64 g).wf = true) {a s : Int} (hm : m g = (a, s)) (ha : 64 < a) (L : Nat) (hL : L ≤ 1000) (hno : ∀ x : Nat, x < L → cov ratio (addI s x) < a - 64 + 1) (hy : a - 64 + 1 ≤ cov ratio (addI s L)) :
    Calls Try.prog 23 #[.pointer (some ⟨p, 0, none⟩), .int .i64 g] W (AnsB (.int .i64 L) W) := by
  obtain ⟨mp, h1, hl, hb0, hH⟩ := h
  have hv := h1.val g
  rw [hm] at hv
  have sz : ∀ (w : World) (o : Obj), (w.alloc o).heap.size = w.heap.size + 1 := fun w o => by show (w.heap.push _).size = _; rw [Array.size_push]
  have hb1 := below_alloc (Below.refl _ W) (.cells #[.pointer (some ⟨p, 0, none⟩)] 23)
  obtain ⟨w1, hw1⟩ : ∃ w1, W.alloc (.cells #[.pointer (some ⟨p, 0, none⟩)] 23) = w1 := ⟨_, rfl⟩
  have x0 := heap_alloc_new W (.cells #[.pointer (some ⟨p, 0, none⟩)] 23)
  have s1 := sz W (.cells #[.pointer (some ⟨p, 0, none⟩)] 23)
  rw [hw1] at hb1 x0 s1
  have hb2 := below_alloc (Below.refl _ w1) (.cells #[.int .i64 a, .int .i64 s] 116)
  obtain ⟨w2, hw2⟩ : ∃ w2, w1.alloc (.cells #[.int .i64 a, .int .i64 s] 116) = w2 := ⟨_, rfl⟩
  have x1 := heap_alloc_new w1 (.cells #[.int .i64 a, .int .i64 s] 116)
  have s2 := sz w1 (.cells #[.int .i64 a, .int .i64 s] 116)
  rw [hw2] at hb2 x1 s2
  have hb3 := below_alloc (Below.refl _ w2) (.cells #[.int .i64 (a - 64 + 1)] 2)
  obtain ⟨w3, hw3⟩ : ∃ w3, w2.alloc (.cells #[.int .i64 (a - 64 + 1)] 2) = w3 := ⟨_, rfl⟩
  have x2 := heap_alloc_new w2 (.cells #[.int .i64 (a - 64 + 1)] 2)
  rw [hw3] at hb3 x2
  rw [s1] at x1 s2
  rw [s2] at x2
  have hbb : Below W.heap.size W w3 := (hb1.trans (hb2.mono hb1.size)).trans (hb3.mono (Nat.le_trans hb1.size hb2.size))
  have hF := free_any (h1.below hb1)
  rw [decide_eq_false (by omega)] at hF
  have z0 := cell_of x0 (j := 0) rfl
  have z0' := cell_then hb3 (cell_then hb2 z0)
  have z1 := cell_of x1 (j := 0) rfl
  have z1' := cell_then hb3 (cell_of x1 (j := 1) rfl)
  have z2' := cell_of x2 (j := 0) rfl
  have hlook := h1.look hg _ hb1
  have c2 := cell_of (h1.below hb1).head (j := 2) rfl
  rw [hm] at hlook
  have h3 := h1.below hbb
  have cS := search_any (w := w3) (F := 94) (caps := #[.pointer (some ⟨W.heap.size, 0, none⟩), .pointer (some ⟨W.heap.size + 1, 0, none⟩), .pointer (some ⟨W.heap.size + 1 + 1, 0, none⟩)]) (fun x => decide (a - 64 + 1 ≤ cov ratio (addI s x))) 9223372036854775807 L (Nat.le_refl _) (by omega)
    (fun x hx => decide_eq_false (by have := hno x hx; omega)) (fun x hx _ => decide_eq_true (by have := cov_mono hr (add_mono (s := s) (show (L : Int) ≤ x by omega)); omega))
    (fun x V hx hb => enough_any (h3.below hb) (cell_then hb z0') (cell_then hb z1') (cell_then hb z2') hv.2 x (by unfold inI; omega)) (fun _ _ => by rfl)
  have hmf : ∀ (fn : Fn) (first cap : Array Value) (w : World), (Instr.makeFunc fn first cap).run Try.prog w = .ok (.func fn first cap) w := fun _ _ _ _ => rfl
  have haI : -9223372036854775808 ≤ a ∧ a ≤ 9223372036854775807 := hv.1
  have e64 : wrap64 (a - 64) = a - 64 := IntWalk.wrap64_in _ ⟨by omega, by omega⟩
  have e65 : wrap64 (a - 64 + 1) = a - 64 + 1 := IntWalk.wrap64_in _ ⟨by omega, by omega⟩
  have hale : ¬ a ≤ 64 := by omega
  replace hbb := Lib.hid hbb
  clear h1 hl hb0 hm hv hno hy h3 hb1 hb2 hb3 x0 x1 x2 sz
  go_enter Try.func23, Try.ntmps23
  go_wp2_with fail
  with_reducible refine Calls.mono hF ?_
  rintro e wx ⟨rfl, rfl⟩
  clear hF
  go_wp2_with fail
  with_reducible refine Calls.mono cS ?_
  rintro e wy ⟨rfl, k, rfl⟩
  clear cS
  go_wp2_with fail
  go_ret
  exact ⟨rfl, below_drewN hbb.out k⟩
end Cr
end Go.Proofs.Ytmngaedcckjfoaa
