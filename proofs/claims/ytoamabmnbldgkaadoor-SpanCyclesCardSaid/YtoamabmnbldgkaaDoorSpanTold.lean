/- What the statements of layer 6 call told answers. -/
import Derived.Test.YtoamabmnbldgkaaDoorSpanNew
namespace Go.Proofs.YtoamabmnbldgkaaDoor
open Go.RowKit Go.Lib Fx Bm Cl
set_option linter.unusedVariables false

section
variable {B : SB} {f c n fr : Nat} {U V : Nat → Bool}
theorem span_alloc_white (q : Nat) (w : World) (h : IsSpan w B f c n fr U V) (hT : TabAt w) (hlo : 0 < B.lo) (hq : nextI U n fr false = q) (hq2 : q < n) : Calls Tryd.prog 26 #[.pointer (some ⟨B.p, 0, none⟩), .bool false] w
    (Makes (.tuple #[.int .i64 q, .bool true]) w B f c n q (upd U q true) V) := span_alloc false q w h hT hlo hq hq2
theorem span_alloc_black (q : Nat) (w : World) (h : IsSpan w B f c n fr U V) (hT : TabAt w) (hlo : 0 < B.lo) (hq : nextI U n fr false = q) (hq2 : q < n) : Calls Tryd.prog 26 #[.pointer (some ⟨B.p, 0, none⟩), .bool true] w
    (Makes (.tuple #[.int .i64 q, .bool true]) w B f c n q (upd U q true) (upd V q true)) := span_alloc true q w h hT hlo hq hq2
theorem span_mark_no (i : Int) (w : World) (h : IsSpan w B f c n fr U V) (hU : hasI U i = false) : Calls Tryd.prog 28 #[.pointer (some ⟨B.p, 0, none⟩), .int .i64 i] w (Makes (.bool false) w B f c n fr U V) := by
  have := span_mark i w h
  rw [hU] at this
  exact this
theorem hasI_nat' (M : Nat → Bool) (k : Nat) : hasI M (k : Int) = M k := by
  unfold hasI; rw [decide_eq_true (by omega), Bool.true_and, Int.toNat_natCast]
theorem span_mark_yes (k : Nat) (w : World) (h : IsSpan w B f c n fr U V) (hU : U k = true) : Calls Tryd.prog 28 #[.pointer (some ⟨B.p, 0, none⟩), .int .i64 k] w (Makes (.bool (!V k)) w B f c n fr U (upd V k true)) := by
  have := span_mark k w h
  have hin := hasI_in h.used.out (i := k) (by rw [hasI_nat']; exact hU)
  rw [hasI_nat', hasI_nat', hU, Bool.true_and, if_pos rfl, show setM V n (k : Int) = upd V k true by unfold setM; rw [if_pos hin, Int.toNat_natCast]] at this
  exact this
end
set_option maxRecDepth 100000 in
set_option maxHeartbeats 2000000 in
theorem told6_any (w : World) (hT : TabAt w) : Calls Tryd.prog 25 #[] w (AnsB (.bool true) w) := by
  have hlt := hT.lt
  have hn : ((1 : Nat) : Int) = slotsI ((15 : Nat) : Int) := by decide +kernel
  have n0 : nextI (fun _ => false) 1 0 false = ((0 : Nat) : Int) := by decide +kernel
  have n1 : nextI (upd (fun _ => false) 0 true) 1 0 false = -1 := by decide +kernel
  have m1 : (mem (swG (upd (fun _ => false) 0 true) (fun _ => false)) 1) = [0] := by decide +kernel
  have l1 : cnt (fun k => upd (fun _ => false) 0 true k && (fun _ => false) k) 1 = 0 := by decide +kernel
  have cnew := span_new 2 15 1 (by omega) hn (by omega) (by omega) w
  replace n0 := Lib.hid n0
  replace n1 := Lib.hid n1
  replace m1 := Lib.hid m1
  replace l1 := Lib.hid l1
  replace hn := Lib.hid hn
  go_enter Tryd.func25, Tryd.ntmps25
  go_wp2_with fail
  refine cnew.mono ?_
  rintro e w1 ⟨B, rfl, hb1, hlo, hs1⟩
  have hT1 := hT.below hb1
  have htl : 0 < B.lo := by omega
  clear cnew
  go_wp2_with fail
  refine (span_new_no 0 3 (by omega) _).mono ?_
  rintro e w2 ⟨rfl, hb2⟩
  have hs2 := hs1.below hb2
  have hT2 := hT1.below hb2
  have hb3 := below_then hb1 hb2
  clear hs1 hT1 hb1 hb2
  go_wp2_with fail
  refine (span_alloc_white 0 _ hs2 hT2 htl n0.out (by omega)).mono ?_
  rintro e w3 ⟨rfl, ht, hs3⟩
  have hT3 := hT2.turned ht htl
  have hb4 := ht.below hb3 hlo
  clear hs2 hT2 hb3 ht
  go_wp2_with fail
  refine (span_alloc_no true _ hs3 hT3 n1.out).mono ?_
  rintro e w' ⟨rfl, k, rfl⟩
  have hs4 := hs3.drewN k
  have hT4 := hT3.drewN k
  have hb5 := below_drewN hb4 k
  clear hs3 hT3 hb4
  go_wp2_with fail
  refine (span_sweep _ hs4 hT4 htl).mono ?_
  rintro e w5 ⟨v, rfl, ht, hs5, hv⟩
  have hb6 := ht.below hb5 hlo
  obtain ⟨sp, cap, rfl, _, _⟩ := hv
  rw [m1.out]
  clear hs4 hT4 hb5 ht
  have c1 := span_slots _ hs5
  have c2 := span_base _ hs5
  go_wp2_with (first | (go_at_call 27; ((with_reducible refine c1.mono ?_); rintro e w' ⟨rfl, rfl⟩)) | (go_at_call 32; ((with_reducible refine c2.mono ?_); rintro e w' ⟨rfl, rfl⟩)))
  have c3 := span_live _ hs5
  rw [l1.out] at c3
  refine c3.mono ?_
  rintro e w' ⟨rfl, k2, rfl⟩
  have c4 := span_class _ (hs5.drewN k2)
  have hb7 := below_drewN hb6 k2
  clear c1 c2 c3 hs5 hb6
  go_wp2_with fail
  refine c4.mono ?_
  rintro e w' ⟨rfl, rfl⟩
  go_wp2_with fail
  go_ret
  exact ⟨rfl, hb7⟩
end Go.Proofs.YtoamabmnbldgkaaDoor
