/- What the statements of layer 3 call told answers. -/
import Derived.Test.YtoamabmnbldgkaaDoorSetTab
namespace Go.Proofs.YtoamabmnbldgkaaDoor
open Go.RowKit Go.Lib Fx Bm
set_option linter.unusedVariables false

set_option maxRecDepth 100000 in
set_option maxHeartbeats 2000000 in
theorem told3_core (w : World) (hT : TabAt w) (M0 M1 M2 : Nat → Bool)
    (cnew : Calls Tryd.prog 9 #[.int .i64 70] w fun e w' => e = .returned (.pointer (some ⟨w.heap.size + 1, 0, none⟩)) ∧ Below w.heap.size w w' ∧ IsSet w' (w.heap.size + 1) w.heap.size 70 M0)
    (c1 : ∀ w' p b, IsSet w' p b 70 M0 → Calls Tryd.prog 12 #[.pointer (some ⟨p, 0, none⟩), .int .i64 65] w' (Turns (.bool true) w' p b 70 M1))
    (c2 : ∀ w' p b, IsSet w' p b 70 M1 → Calls Tryd.prog 12 #[.pointer (some ⟨p, 0, none⟩), .int .i64 65] w' (Turns (.bool false) w' p b 70 M2))
    (c3 : ∀ w' p b, IsSet w' p b 70 M2 → TabAt w' → Calls Tryd.prog 16 #[.pointer (some ⟨p, 0, none⟩), .int .i64 0, .bool true] w' (Same (.int .i64 65) w'))
    (c4 : ∀ w' p b, IsSet w' p b 70 M2 → TabAt w' → Calls Tryd.prog 16 #[.pointer (some ⟨p, 0, none⟩), .int .i64 65, .bool false] w' (Same (.int .i64 66) w'))
    (c5 : ∀ w' p b, IsSet w' p b 70 M2 → TabAt w' → Calls Tryd.prog 16 #[.pointer (some ⟨p, 0, none⟩), .int .i64 66, .bool true] w' (Same (.int .i64 (-1)) w'))
    (c6 : ∀ w' p b, IsSet w' p b 70 M2 → Calls Tryd.prog 20 #[.pointer (some ⟨p, 0, none⟩)] w' (Ans (.int .i64 1) w'))
    (c7 : ∀ w' p b, IsSet w' p b 70 M2 → Calls Tryd.prog 10 #[.pointer (some ⟨p, 0, none⟩)] w' (Same (.int .i64 70) w'))
    (c8 : ∀ w' p b, IsSet w' p b 70 M2 → Calls Tryd.prog 12 #[.pointer (some ⟨p, 0, none⟩), .int .i64 70] w' (Turns (.bool false) w' p b 70 M2)) :
    Calls Tryd.prog 21 #[] w (AnsB (.bool true) w) := by
  have hlt := hT.lt
  go_enter Tryd.func21, Tryd.ntmps21
  go_wp2_with fail
  with_reducible refine Calls.mono cnew ?_
  rintro e w1 ⟨rfl, hb1, hs1⟩
  obtain ⟨b, hb⟩ : ∃ b, b = w.heap.size := ⟨_, rfl⟩
  have hbw : w.heap.size ≤ b := by omega
  rw [← hb] at hs1 ⊢
  clear hb cnew
  go_wp2_with fail
  with_reducible refine Calls.mono (c1 _ _ _ hs1) ?_
  rintro e w2 ⟨rfl, hg2, hs2⟩
  have hb2 := below_turn hb1 hg2 hbw
  clear hs1 hb1 hg2 c1
  go_wp2_with fail
  with_reducible refine Calls.mono (c2 _ _ _ hs2) ?_
  rintro e w3 ⟨rfl, hg3, hs3⟩
  have hb3 := below_turn hb2 hg3 hbw
  have hT3 := hT.below hb3
  clear hs2 hb2 hg3 c2
  go_wp2_with fail
  with_reducible refine Calls.mono (c3 _ _ _ hs3 hT3) ?_
  rintro e w' ⟨rfl, rfl⟩
  go_wp2_with fail
  with_reducible refine Calls.mono (c4 _ _ _ hs3 hT3) ?_
  rintro e w' ⟨rfl, rfl⟩
  go_wp2_with fail
  with_reducible refine Calls.mono (c5 _ _ _ hs3 hT3) ?_
  rintro e w' ⟨rfl, rfl⟩
  go_wp2_with fail
  with_reducible refine Calls.mono (c6 _ _ _ hs3) ?_
  rintro e w' ⟨rfl, k, rfl⟩
  have hs4 := hs3.drewN k
  have hb4 := below_drewN hb3 k
  clear hs3 hb3 hT3
  go_wp2_with fail
  with_reducible refine Calls.mono (c7 _ _ _ hs4) ?_
  rintro e w' ⟨rfl, rfl⟩
  go_wp2_with fail
  with_reducible refine Calls.mono (c8 _ _ _ hs4) ?_
  rintro e w5 ⟨rfl, hg5, hs5⟩
  go_wp2_with fail
  go_ret
  exact ⟨rfl, below_turn hb4 hg5 hbw⟩
theorem told3_any (w : World) (hT : TabAt w) : Calls Tryd.prog 21 #[] w (AnsB (.bool true) w) := by
  have e1 : (decide ((0 : Int) ≤ 65 ∧ (65 : Int) < ((70 : Nat) : Int)) && !hasI (fun _ => false) 65) = true := by decide
  have e2 : (decide ((0 : Int) ≤ 65 ∧ (65 : Int) < ((70 : Nat) : Int)) && !hasI (setM (fun _ => false) 70 65) 65) = false := by decide
  have e3 : nextI (setM (setM (fun _ => false) 70 65) 70 65) 70 (0 : Int).toNat true = 65 := by decide +kernel
  have e4 : nextI (setM (setM (fun _ => false) 70 65) 70 65) 70 (65 : Int).toNat false = 66 := by decide +kernel
  have e5 : nextI (setM (setM (fun _ => false) 70 65) 70 65) 70 (66 : Int).toNat true = -1 := by decide +kernel
  have e6 : ((cnt (setM (setM (fun _ => false) 70 65) 70 65) 70 : Nat) : Int) = 1 := by decide +kernel
  have e7 : (decide ((0 : Int) ≤ 70 ∧ (70 : Int) < ((70 : Nat) : Int)) && !hasI (setM (setM (fun _ => false) 70 65) 70 65) 70) = false := by decide
  have e8 : setM (setM (setM (fun _ => false) 70 65) 70 65) 70 70 = setM (setM (fun _ => false) 70 65) 70 65 := if_neg (by decide)
  refine told3_core w hT (fun _ => false) (setM (fun _ => false) 70 65) (setM (setM (fun _ => false) 70 65) 70 65) (setnew_any 70 (by omega) w)
    (fun w' p b h => by have := setset_any 65 w' h; rw [e1] at this; exact this) (fun w' p b h => by have := setset_any 65 w' h; rw [e2] at this; exact this)
    (fun w' p b h hT => by have := setnext_any 0 true w' h hT; rw [e3] at this; exact this) (fun w' p b h hT => by have := setnext_any 65 false w' h hT; rw [e4] at this; exact this) (fun w' p b h hT => by have := setnext_any 66 true w' h hT; rw [e5] at this; exact this)
    (fun w' p b h => by have := setcount_any w' h; rw [e6] at this; exact this) (fun w' p b h => setlen_any _ _ _ h.c0) (fun w' p b h => by have := setset_any 70 w' h; rw [e7, e8] at this; exact this)
end Go.Proofs.YtoamabmnbldgkaaDoor
