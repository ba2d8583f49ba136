/- View: the place of the first object at an address (view.Find). -/
import Derived.Test.YtneibhcigbfigaaVwWk
namespace Go.Proofs.Ytneibhcigbfigaa
open Go.RowKit Go.Lib Fx Ho Gr
set_option linter.unusedVariables false
namespace Vw
variable {B w w' W : World} {vo vg vs v : Value} {os : List Ob} {V : Vi} {x a : Int} {k q : Nat}
set_option maxRecDepth 100000 in
theorem isat_any (a : Int) (sv : Value) (hsv : ∃ s n c, sv = .slice s n c) (m : Bool) (x : Int) (hq : W.cell? ⟨q, 0, none⟩ = some (.int .i64 x)) : Calls Try.prog 60 #[.agg #[.int .i64 a, sv, .bool m], .pointer (some ⟨q, 0, none⟩)] W fun e w' => e = .returned (.bool (a == x)) ∧ Below W.heap.size W w' := by
  obtain ⟨s, n, c, rfl⟩ := hsv
  have hb := Lib.hid (below_alloc (Below.refl _ W) (.cells #[.int .i64 a, .slice s n c, .bool m] 29))
  have c0 : (W.alloc (.cells #[.int .i64 a, .slice s n c, .bool m] 29)).cell? ⟨q, 0, none⟩ = some (.int .i64 x) := cell_then hb.out hq
  go_enter Try.func60, Try.ntmps60
  go_wp2_with fail
  go_ret
  exact ⟨rfl, hb.out⟩
theorem fidx_at : ∀ {os : List Ob} {k : Nat}, k < os.length → (∀ o ∈ os.take k, o.1 ≠ x) → (os.getD k o0).1 = x → fidx os x = some k
  | [], k, h, _, _ => by simp at h
  | o :: os, 0, _, _, h => by unfold fidx; rw [if_pos (show o.1 = x from h)]
  | o :: os, k + 1, hk, h1, h2 => by
    unfold fidx
    rw [if_neg (h1 o (by simp)), fidx_at (os := os) (k := k) (by rw [List.length_cons] at hk; omega) (fun o' ho => h1 o' (by rw [List.take_succ_cons]; exact List.mem_cons_of_mem _ ho)) h2]; rfl
/-- What Find answers. -/
def fnd (os : List Ob) (x : Int) : Int := match fidx os x with
  | some k => (k : Int)
  | none => -1
theorem fnd_at (hk : k < os.length) (h1 : ∀ o ∈ os.take k, o.1 ≠ x) (h2 : (os.getD k o0).1 = x) : fnd os x = (k : Int) := by unfold fnd; rw [fidx_at hk h1 h2]
theorem fnd_no (h : ∀ o ∈ os, o.1 ≠ x) : fnd os x = -1 := by
  unfold fnd
  rw [fidx_none.2 (fun e => by obtain ⟨o, ho, e2⟩ := List.mem_map.1 e; exact h o ho e2)]
set_option maxRecDepth 100000 in
set_option maxHeartbeats 2000000 in
theorem idxo_any (ho : OsRow w vo os) (hq : w.cell? ⟨q, 0, none⟩ = some (.int .i64 x)) : Calls Try.prog 59 #[vo, .func (.func 60) #[] #[.pointer (some ⟨q, 0, none⟩)]] w fun e w' => e = .returned (.int .i64 (fnd os x)) ∧ Below w.heap.size w w' := by
  obtain ⟨sp, cap, rfl, hmx, hos⟩ := ho
  obtain ⟨m, hm0⟩ : ∃ m, os.length = m := ⟨_, rfl⟩
  have hat : Hid (∀ i, i < m → ∃ b off sv, sp = some ⟨b, off, none⟩ ∧ w.cell? ⟨b, off + i * 3, none⟩ = some (.int .i64 (os.getD i o0).1) ∧ w.cell? ⟨b, off + i * 3 + 1, none⟩ = some sv ∧ w.cell? ⟨b, off + i * 3 + 2, none⟩ = some (.bool (os.getD i o0).2.2) ∧ (∃ sp2 n3 p2, sv = .slice sp2 n3 p2)) := Lib.hid fun i hi => by
    obtain ⟨b, off, sv, e1, _, e3, e4, e5, e6⟩ := hos i (by omega)
    obtain ⟨sp2, p2, e7, _⟩ := e6
    exact ⟨b, off, sv, e1, e3, e4, e5, ⟨sp2, _, p2, e7⟩⟩
  have hnx : Hid (∀ i, i < m → (∀ o ∈ os.take i, o.1 ≠ x) → (os.getD i o0).1 ≠ x → ∀ o ∈ os.take (i + 1), o.1 ≠ x) := Lib.hid fun i hi h1 h2 o ho => by
    rw [take_app (by omega)] at ho
    rcases List.mem_append.1 ho with e | e
    · exact h1 o e
    · rw [List.mem_singleton.1 e]; exact h2
  have hyes : Hid (∀ i, i < m → (∀ o ∈ os.take i, o.1 ≠ x) → (os.getD i o0).1 = x → fnd os x = (i : Int)) := Lib.hid fun i hi h1 h2 => fnd_at (by omega) h1 h2
  have hno : Hid ((∀ o ∈ os.take m, o.1 ≠ x) → fnd os x = -1) := Lib.hid fun h => by rw [List.take_of_length_le (by omega)] at h; exact fnd_no h
  rw [hm0] at hmx ⊢
  clear hos hm0
  go_enter Try.func59, Try.ntmps59
  go_wp2_with fail
  go_loopw [8] (fun u wr => ∃ i : Nat, u = .int .i64 i ∧ i ≤ m ∧ Hid (∀ o ∈ os.take i, o.1 ≠ x) ∧ Hid (Below w.heap.size w wr)) (fun u _ => (m - (RowKit.intOf u).toNat))
  case atStart => exact ⟨0, rfl, by omega, Lib.hid (fun o ho => by simp at ho), Lib.hid (Below.refl _ _)⟩
  case round =>
    obtain ⟨i, rfl, hi, hnone, hbw⟩ := hrel
    have i0 : (0 : Int) ≤ (i : Int) := by omega
    by_cases hlt : i < m
    · have i2 : (i : Int) < (m : Int) := by omega
      obtain ⟨b, off, sv, rfl, e3, e4, e5, ⟨sp2, n3, p2, rfl⟩⟩ := hat.out i hlt
      have d3 := cell_then hbw.out e3
      have d4 := cell_then hbw.out e4
      have d5 := cell_then hbw.out e5
      obtain ⟨oa, hoa⟩ : ∃ oa, (os.getD i o0).1 = oa := ⟨_, rfl⟩
      obtain ⟨om, hom⟩ : ∃ om, (os.getD i o0).2.2 = om := ⟨_, rfl⟩
      rw [hoa] at d3
      rw [hom] at d5
      have hc := isat_any oa (.slice sp2 n3 p2) ⟨_, _, _, rfl⟩ om x (cell_then hbw.out hq)
      have hn1 := Lib.hid (hnx.out i hlt hnone.out)
      have hy1 := Lib.hid (hyes.out i hlt hnone.out)
      rw [hoa] at hn1 hy1
      clear e3 e4 e5 hoa hom hnone
      by_cases hx : oa = x
      · have hfx := Lib.hid (hy1.out hx)
        have hxx : (oa == x) = true := by rw [hx]; exact beq_self_eq_true x
        rw [hxx] at hc
        clear hn1 hy1 hx hxx
        go_wp2_with fail
        refine Calls.mono hc ?_
        rintro e w6 ⟨rfl, hb6⟩
        have hb7 := Lib.hid (hbw.out.trans (hb6.mono hbw.out.size))
        clear hc hbw hb6
        go_wp2_with fail
        go_ret
        exact ⟨congrArg (fun z => Ending.returned (.int .i64 z)) hfx.out.symm, hb7.out⟩
      · have hxx : (oa == x) = false := beq_eq_false_iff_ne.2 hx
        rw [hxx] at hc
        have hnx2 := Lib.hid (hn1.out hx)
        clear hn1 hy1 hx hxx
        go_wp2_with fail
        refine Calls.mono hc ?_
        rintro e w6 ⟨rfl, hb6⟩
        have hb7 := Lib.hid (hbw.out.trans (hb6.mono hbw.out.size))
        clear hc hbw hb6
        go_wp2_with fail
        go_roundw
        case rel => exact ⟨i + 1, by go_num, by omega, hnx2, hb7⟩
        case measure => simp [RowKit.intOf]; omega
    · obtain rfl : i = m := by omega
      have hfx := Lib.hid (hno.out hnone.out)
      clear hnone
      go_wp2_with fail
      go_ret
      exact ⟨congrArg (fun z => Ending.returned (.int .i64 z)) hfx.out.symm, hbw.out⟩
set_option maxRecDepth 100000 in
set_option maxHeartbeats 2000000 in
theorem find_any (h : IsV w V vg vs vo) (x : Int) : Calls Try.prog 22 #[vv V vg vs vo, .int .i64 x] w fun e w' => e = .returned (.int .i64 (fnd V.os x)) ∧ Below w.heap.size w w' := by
  have hmf : ∀ (fn : Fn) (first cap : Array Value) (w : World), (Instr.makeFunc fn first cap).run Try.prog w = .ok (.func fn first cap) w := fun _ _ _ _ => rfl
  have b1 := below_alloc (Below.refl _ w) (.cells #[.int .i64 V.ph, .int .i64 V.cy, .int .i64 V.ck, vg, vs, vo, .int .i64 V.gr, .int .i64 V.nt, .int .i64 V.rt] 32)
  have k1 := heap_alloc_new w (.cells #[.int .i64 V.ph, .int .i64 V.cy, .int .i64 V.ck, vg, vs, vo, .int .i64 V.gr, .int .i64 V.nt, .int .i64 V.rt] 32)
  obtain ⟨W1, hW1⟩ : ∃ W1, w.alloc (.cells #[.int .i64 V.ph, .int .i64 V.cy, .int .i64 V.ck, vg, vs, vo, .int .i64 V.gr, .int .i64 V.nt, .int .i64 V.rt] 32) = W1 := ⟨_, rfl⟩
  rw [hW1] at b1 k1
  have b2 := below_alloc (Below.refl _ W1) (.cells #[.int .i64 x] 3)
  have k2 := heap_alloc_new W1 (.cells #[.int .i64 x] 3)
  obtain ⟨W2, hW2⟩ : ∃ W2, W1.alloc (.cells #[.int .i64 x] 3) = W2 := ⟨_, rfl⟩
  rw [hW2] at b2 k2
  have hs : W1.heap.size = w.heap.size + 1 := by rw [← hW1, s_alloc]
  have c5 : W2.cell? ⟨w.heap.size, 5, none⟩ = some vo := cell_then b2 (cell_of k1 rfl)
  have ci := idxo_any ((h.below b1).below b2).os (cell_of k2 (j := 0) rfl)
  rw [hs] at ci
  have hb := Lib.hid (b1.trans (b2.mono b1.size))
  unfold vv
  clear h k1 k2 b1 b2
  go_enter Try.func22, Try.ntmps22
  go_upto_region 1 with fail
  try rw [hW1]
  try rw [hs]
  try rw [hW2]
  clear hW1 hW2 hs
  go_wp2_with fail
  with_reducible refine Calls.mono ci ?_
  rintro e w5 ⟨rfl, hb5⟩
  have hb6 := Lib.hid (hb.out.trans (hb5.mono hb.out.size))
  clear ci hb hb5
  go_wp2_with fail
  go_ret
  exact ⟨rfl, hb6.out⟩
end Vw
end Go.Proofs.Ytneibhcigbfigaa
