/- What the calls of no Pages answer; what Runs's runs sum up to. -/
import Derived.Test.YtbheabjemaaeoabPageTold
namespace Go.Proofs.Ytbheabjemaaeoab
open Go.RowKit Go.Lib Fx Ho Gr Go.Sort
set_option linter.unusedVariables false
namespace Pg
variable {W0 w w1 w' W : World} {P b n c i j k q K a N p : Nat} {v : Value} {L M : List Rn} {H H' : Home} {F : List Bool} {d : Array Pr2}
set_option maxRecDepth 100000 in
theorem alloc_nil (k : Int) (w : World) : Calls Try.prog 7 #[.pointer none, .int .i64 k] w (AnsB (.tuple #[.int .i64 0, .int .i64 1]) w) := by
  go_enter Try.func7, Try.ntmps7
  go_wp2_with fail
  go_ret2
  exact ⟨rfl, Below.refl _ _⟩
set_option maxRecDepth 100000 in
theorem may_nil (a k : Int) (w : World) : Calls Try.prog 23 #[.pointer none, .int .i64 a, .int .i64 k] w (AnsB (.bool false) w) := by
  go_enter Try.func23, Try.ntmps23
  go_wp2_with fail
  go_ret
  exact ⟨rfl, Below.refl _ _⟩
set_option maxRecDepth 100000 in
theorem free_nil (a k : Int) (w : World) : Calls Try.prog 9 #[.pointer none, .int .i64 a, .int .i64 k] w (AnsB (.int .i64 1) w) := by
  have cm := may_nil a k w
  go_enter Try.func9, Try.ntmps9
  go_wp2_with fail
  with_reducible refine Calls.mono (cm) ?_
  rintro e w2 ⟨rfl, hb⟩
  go_wp2_with fail
  go_ret
  exact ⟨rfl, hb⟩
set_option maxRecDepth 100000 in
theorem left_nil (w : World) : Calls Try.prog 11 #[.pointer none] w (AnsB (.int .i64 0) w) := by
  go_enter Try.func11, Try.ntmps11
  go_wp2_with fail
  go_ret
  exact ⟨rfl, Below.refl _ _⟩
set_option maxRecDepth 100000 in
theorem runs_nil (w : World) : Calls Try.prog 10 #[.pointer none] w (AnsB (.slice none 0 0) w) := by
  go_enter Try.func10, Try.ntmps10
  go_wp2_with fail
  go_ret
  exact ⟨rfl, Below.refl _ _⟩
def sumP : List Pr2 → Int
  | [] => 0
  | x :: t => x.2 + sumP t
theorem sumP_perm {A B : List Pr2} (h : A.Perm B) : sumP A = sumP B := by
  induction h with
  | nil => rfl
  | cons x _ ih => show x.2 + _ = x.2 + _; rw [ih]
  | swap x y l => show y.2 + (x.2 + sumP l) = x.2 + (y.2 + sumP l); omega
  | trans _ _ ih1 ih2 => rw [ih1, ih2]
theorem sumP_pr : ∀ L : List Rn, sumP (L.map pr) = tot L
  | [] => rfl
  | r :: t => by
    show r.2.1 + sumP (t.map pr) = r.2.1 + tot t
    rw [sumP_pr t]
theorem sumP_app : ∀ A B : List Pr2, sumP (A ++ B) = sumP A + sumP B
  | [], B => by simp [sumP]
  | x :: t, B => by
    show x.2 + sumP (t ++ B) = x.2 + sumP t + sumP B
    rw [sumP_app t B]; omega
theorem sumP_take (hj : j < d.size) : sumP (d.toList.take (j + 1)) = sumP (d.toList.take j) + d[j]!.2 := by
  rw [List.take_succ_eq_append_getElem (by rw [Array.length_toList]; exact hj), sumP_app, Array.getElem_toList, getElem!_pos d j hj]
  show _ + (_ + (0 : Int)) = _
  omega
/-- What Runs answers and makes, in a session of a law, the sum told. -/
def RunsT (W0 : World) (P n c : Nat) (F : List Bool) (H : Home) (w : World) (e : Ending) (w' : World) : Prop := ∃ b cap, ∃ d : Array Pr2, e = .returned (.slice (some ⟨b, 0, none⟩) d.size cap) ∧ d.size ≤ cap ∧ d.size ≤ 1000 ∧ HoldsK encR 2 w' b 0 d ∧ Sorted n F d ∧ sumP d.toList = cnt F ∧ Below w.heap.size w w' ∧ Ps W0 w' P n c F H
theorem sorted_of (h2 : Rel n F L) (hx : Lx n L) (q5 : d.toList.Perm (L.map pr)) (q6 : ∀ i j, i < j → j < d.size → d[i]!.1 ≤ d[j]!.1) : Sorted n F d := by
  refine ⟨fun x hx' => ?_, fun a K g => ?_, fun i j hij hj => ?_⟩
  · obtain ⟨r, hr, rfl⟩ := List.mem_map.1 (q5.mem_iff.1 hx')
    have hp := hx.pos r hr
    exact ⟨by show 0 ≤ r.1; omega, by show 0 ≤ r.2.1; omega, h2.sound r hr⟩
  · obtain ⟨r, hr, r1, r2⟩ := h2.all a K g
    refine q5.mem_iff.2 (List.mem_map.2 ⟨r, hr, ?_⟩)
    unfold pr
    rw [r1, r2]
  · have hle := q6 i j hij hj
    have hap : (L.map pr).Pairwise (fun x y => x.1 ≠ y.1) := by
      rw [List.pairwise_map]
      refine List.Pairwise.imp_of_mem (R := Apart) ?_ hx.pair
      intro r s hr hs hap
      have p1 := hx.pos r hr
      have p2 := hx.pos s hs
      unfold Apart at hap
      show r.1 ≠ s.1
      omega
    have hd := q5.symm.pairwise hap (fun h => Ne.symm h)
    have hne := List.pairwise_iff_getElem.1 hd i j (by rw [Array.length_toList]; omega) (by rw [Array.length_toList]; exact hj) hij
    rw [Array.getElem_toList, Array.getElem_toList, ← getElem!_pos d i (by omega), ← getElem!_pos d j hj] at hne
    omega
theorem runs_t (h : Ps W0 W P n c F H) : Calls Try.prog 10 #[.pointer (some ⟨P, 0, none⟩)] W (RunsT W0 P n c F H W) := by
  obtain ⟨v, b0, z, L, m, h1, h2, h3, h4, rfl⟩ := id h
  refine (runs_w h1).mono fun e w' ⟨b, cap, d, he, q1, q2, q3, q4, q5, q6, q7⟩ => ⟨b, cap, d, he, q3, ?_, q4, sorted_of h2 h1.lx q5 q6, ?_, q7, h.below q7⟩
  · have := q5.length_eq
    rw [List.length_map, Array.length_toList] at this
    have := h1.pc.q.pile.small
    omega
  · rw [sumP_perm q5, sumP_pr, tot_cnt L F h2 h1.lx h1.pc.len]
theorem Sorted.at_ (h : Sorted n F d) (hj : j < d.size) : 1 ≤ d[j]!.1 ∧ 1 ≤ d[j]!.2 ∧ d[j]!.1 + d[j]!.2 ≤ n ∧ IsRun n F d[j]!.1.toNat d[j]!.2.toNat := by
  have hm : d[j]! ∈ d.toList := by rw [getElem!_pos d j hj]; exact Array.getElem_mem_toList hj
  obtain ⟨h1, h2, g⟩ := h.sound _ hm
  have := g.a1
  have := g.k1
  have := g.le
  exact ⟨by omega, by omega, by omega, g⟩
theorem Sorted.gap (h : Sorted n F d) (hj : j + 1 < d.size) : d[j]!.1 + d[j]!.2 < d[j + 1]!.1 := by
  have h1 := h.at_ (j := j) (by omega)
  have h2 := h.at_ hj
  have h3 := h.up j (j + 1) (by omega) hj
  have := h1.2.2.2.apart h2.2.2.2 (by omega)
  omega
end Pg
end Go.Proofs.Ytbheabjemaaeoab
