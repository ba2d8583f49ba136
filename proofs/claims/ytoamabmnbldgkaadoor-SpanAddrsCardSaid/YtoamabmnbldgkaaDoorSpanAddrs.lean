/- For any three whole numbers (a class, a page, an address) the statement SpanAddrs answers true: places' addresses lie a size apart, within the span's pages, and are told apart from all others. The library's table math/bits.deBruijn64tab lies as its initialiser lays it (tied by the card); no other condition. -/
import Derived.Test.YtoamabmnbldgkaaDoorSpanTold
import Derived.Test.YtoamabmnbldgkaaDoorClassRef
import Derived.WalkKit
import Derived.ProofKit
import Derived.OpenShut
import Derived.Test.YtoamabmnbldgkaaDoorTie
import Derived.Test.YtoamabmnbldgkaaDoorCards
import Derived.LaidMore
import Derived.Stop.Joined
import Derived.SevenTiedAt
namespace Go.Proofs.YtoamabmnbldgkaaDoor.spanAddrs
open Go.ChangeShapes Go.WideShapes Go.ChangeAt Go.WideElems Go.RowKit Go.Lib Fx Bm Cl
set_option linter.unusedVariables false

theorem own : ownKnob Tryd.prog.godebug = none := by kernel_rfl

theorem addr_last {B : SB} {f c n fr : Nat} {U V : Nat → Bool} {S T : Int} (hS : sizeI c = S) (hT : (n : Int) * S = T) (w : World) (h : IsSpan w B f c n fr U V) : Calls Tryd.prog 42 #[.pointer (some ⟨B.p, 0, none⟩), .int .i64 ((n : Int) - 1)] w (AnsB (.int .i64 ((f : Int) * 64 + (T - S))) w) := by
  have := span_addr ((n : Int) - 1) w h
  have hn := h.n64
  rw [if_pos ⟨by omega, by omega⟩, hS, Int.sub_mul, hT, Int.one_mul] at this
  exact this
theorem addr_out {B : SB} {f c n fr : Nat} {U V : Nat → Bool} (w : World) (h : IsSpan w B f c n fr U V) : Calls Tryd.prog 42 #[.pointer (some ⟨B.p, 0, none⟩), .int .i64 (n : Int)] w (AnsB (.int .i64 0) w) := by
  have := span_addr (n : Int) w h
  rw [if_neg (by omega)] at this
  exact this
theorem addr_is {B : SB} {f c n fr : Nat} {U V : Nat → Bool} {S Q X : Int} (hS : sizeI c = S) (h0 : 0 ≤ Q) (h1 : Q < n) (hX : (f : Int) * 64 + Q * S = X) (w : World) (h : IsSpan w B f c n fr U V) : Calls Tryd.prog 42 #[.pointer (some ⟨B.p, 0, none⟩), .int .i64 Q] w (AnsB (.int .i64 X) w) := by
  have := span_addr Q w h
  rw [if_pos ⟨h0, h1⟩, hS, hX] at this
  exact this
theorem slots_pages {n c : Nat} {S P : Int} (hn : (n : Int) = slotsI c) (hc : c ≤ 15) (hS : sizeI c = S) (hP : pagesI c = P) : (n : Int) * S ≤ P * 64 := by
  have := (slots_u hn hc).2.2
  rw [hS, hP] at this
  exact this
set_option maxRecDepth 100000 in
set_option maxHeartbeats 4000000 in
theorem walk (a0 : Int) (a1 : Int) (a2 : Int) (w : World) (hT : TabAt w) :
    Calls Tryd.prog 7 #[.int .i64 a0, .int .i64 a1, .int .i64 a2] w fun e w' => e = .returned (.bool true) ∧ Below w.heap.size w w' := by
  obtain ⟨Y, hY⟩ : ∃ Y : Int, IntKind.u64.wrap a0 = Y := ⟨_, rfl⟩
  obtain ⟨Z, hZ⟩ : ∃ Z : Int, IntKind.u64.wrap a1 = Z := ⟨_, rfl⟩
  obtain ⟨A, hA⟩ : ∃ A : Int, IntKind.u64.wrap a2 = A := ⟨_, rfl⟩
  have y0 : 0 ≤ Y := by rw [← hY, IntKind.wrap_u64]; omega
  have z0 : 0 ≤ Z := by rw [← hZ, IntKind.wrap_u64]; omega
  have ea0 : 0 ≤ A := by rw [← hA, IntKind.wrap_u64]; omega
  obtain ⟨c, hc⟩ : ∃ c : Nat, Y % 16 = (c : Int) := ⟨(Y % 16).toNat, by omega⟩
  obtain ⟨g, hg⟩ : ∃ g : Int, Z % 1000 = g := ⟨_, rfl⟩
  obtain ⟨t, ht⟩ : ∃ t : Int, A % 600 = t := ⟨_, rfl⟩
  obtain ⟨f, hf⟩ : ∃ f : Nat, 1 + g = (f : Int) := ⟨(1 + g).toNat, by omega⟩
  have g0 : 0 ≤ g := by omega
  have g1 : g < 1000 := by omega
  have t0 : 0 ≤ t := by omega
  have t1 : t < 600 := by omega
  have f1 : 1 ≤ (f : Int) := by omega
  have f2 : (f : Int) ≤ 1000 := by omega
  have hc15 : c ≤ 15 := by omega
  have hsl := slots_in (k := c) (by omega) (by omega)
  obtain ⟨n, hn⟩ : ∃ n : Nat, (n : Int) = slotsI c := ⟨(slotsI c).toNat, by omega⟩
  have n1 : 1 ≤ (n : Int) := by omega
  have n2 : (n : Int) ≤ 64 := by omega
  have cnew := span_new f c n hc15 hn (by omega) (by omega) w
  have hz := size_in (k := c) (by omega) (by omega)
  have hp := pages_in (k := c) (by omega) (by omega)
  have cs := rsize_any4 c
  have cp := rpages_any c
  obtain ⟨S, hS⟩ : ∃ S, sizeI c = S := ⟨_, rfl⟩
  obtain ⟨P, hP⟩ : ∃ P, pagesI c = P := ⟨_, rfl⟩
  have hTP := slots_pages hn hc15 hS hP
  obtain ⟨T, hT'⟩ : ∃ T, (n : Int) * S = T := ⟨_, rfl⟩
  rw [hT'] at hTP
  rw [hS] at cs hz
  rw [hP] at cp hp
  obtain ⟨s1, s2⟩ := hz
  obtain ⟨p1, p2⟩ := hp
  have hST : S ≤ T := by rw [← hT']; exact Int.le_trans (by omega) (Int.mul_le_mul_of_nonneg_right n1 (by omega))
  have cl1 := fun (B : SB) w' (h : IsSpan w' B f c n 0 (fun _ => false) (fun _ => false)) => addr_last hS hT' w' h
  replace cl1 := Lib.hid cl1
  replace cs := Lib.hid cs
  replace cp := Lib.hid cp
  have hlt := hT.lt
  obtain ⟨X, hX⟩ : ∃ X : Int, (f : Int) * 64 - 64 + t = X := ⟨_, rfl⟩
  have hX0 : (f : Int) * 64 - 64 ≤ X := by omega
  have hX1 : X ≤ 64600 := by omega
  have cat := fun (B : SB) w' (h : IsSpan w' B f c n 0 (fun _ => false) (fun _ => false)) (hx : (f : Int) * 64 ≤ X) => span_at_any X w' h hx (by omega)
  rw [hS] at cat
  replace cat := Lib.hid cat
  have hS' := Lib.hid hS
  have hS0 : ¬ S = 0 := by omega
  clear hsl hn hS hP hT'
  by_cases hx : X < (f : Int) * 64
  · have d0 : decide ((f : Int) * 64 ≤ X) = false := decide_eq_false (by omega)
    go_enter Tryd.func7, Tryd.ntmps7
    go_wp2_with fail
    with_reducible refine Calls.mono (cnew) ?_
    rintro e w1 ⟨B, rfl, hb1, hlo, hs1⟩
    have hT1 := hT.below hb1
    clear cnew
    go_wp2_with fail
    with_reducible refine Calls.mono (cs.out _) ?_
    rintro e w2 ⟨rfl, hb⟩
    have hs2 := hs1.below hb
    have hT2 := hT1.below hb
    have hb2 := below_then hb1 hb
    clear hs1 hT1 hb1 hb cs
    go_wp2_with fail
    with_reducible refine Calls.mono (span_at_low X _ hs2 hx) ?_
    rintro e w3 ⟨rfl, hb⟩
    have hs3 := hs2.below hb
    have hT3 := hT2.below hb
    have hb3 := below_then hb2 hb
    clear hs2 hT2 hb2 hb cat
    have cq : Hid (∀ j, Calls Tryd.prog 27 #[.pointer (some ⟨B.p, 0, none⟩)] (w3.drewN j) (Ans (.int .i64 n) (w3.drewN j))) := fun j => Same.ans (span_slots _ (hs3.drewN j))
    replace hs3 := Lib.hid hs3
    replace hT3 := Lib.hid hT3
    replace hb3 := Lib.hid hb3
    go_wp2_with fail
    go_quiet ((go_at_call 27; refine quiet_ans1 (cq.out _)))
    have hs4 := hs3.out.drewN nq
    have hT4 := hT3.out.drewN nq
    have hb4 := below_drewN hb3.out nq
    generalize w3.drewN nq = w4 at *
    clear hs3 hT3 hb3 cq
    go_wp2_with fail
    with_reducible refine Calls.mono (told6_any _ hT4) ?_
    rintro e w5 ⟨rfl, hb⟩
    have hs5 := hs4.below hb
    have hb5 := below_then hb4 hb
    clear hs4 hT4 hb4 hb
    go_wp2_with fail
    with_reducible refine Calls.mono (span_slots _ hs5) ?_
    rintro e w' ⟨rfl, rfl⟩
    go_wp2_with fail
    with_reducible refine Calls.mono (cl1.out _ _ hs5) ?_
    rintro e w6 ⟨rfl, hb⟩
    have hs6 := hs5.below hb
    have hb6 := below_then hb5 hb
    clear hs5 hb5 hb cl1
    go_wp2_with fail
    with_reducible refine Calls.mono (cp.out _) ?_
    rintro e w7 ⟨rfl, hb⟩
    have hs7 := hs6.below hb
    have hb7 := below_then hb6 hb
    clear hs6 hb6 hb cp
    go_wp2_with fail
    with_reducible refine Calls.mono (span_slots _ hs7) ?_
    rintro e w' ⟨rfl, rfl⟩
    go_wp2_with fail
    with_reducible refine Calls.mono (addr_out _ hs7) ?_
    rintro e w8 ⟨rfl, hb⟩
    have hb8 := below_then hb7 hb
    clear hs7 hb7 hb
    go_wp2_with fail
    go_ret
    exact ⟨rfl, hb8⟩
  · replace hx : (f : Int) * 64 ≤ X := by omega
    by_cases hr : (X - (f : Int) * 64) % S = 0
    · by_cases hq : (X - (f : Int) * 64) / S < n
      · have d0 : decide ((f : Int) * 64 ≤ X) = true := decide_eq_true (by omega)
        obtain ⟨e1, e2⟩ := at_div (n := 0) (k := 0) s1 (show 0 ≤ X - (f : Int) * 64 by omega)
        have q0 : 0 ≤ (X - (f : Int) * 64) / S := Int.ediv_nonneg (by omega) (by omega)
        have q1 : (X - (f : Int) * 64) / S ≤ X := Int.le_trans (Int.ediv_le_self _ (by omega)) (by omega)
        have ca := fun (B : SB) w' (h : IsSpan w' B f c n 0 (fun _ => false) (fun _ => false)) => addr_is hS'.out q0 hq (show (f : Int) * 64 + (X - (f : Int) * 64) / S * S = X by have := Int.ediv_mul_add_emod (X - (f : Int) * 64) S; omega) w' h
        replace ca := Lib.hid ca
        replace cat := Lib.hid (fun (B : SB) w' (h : IsSpan w' B f c n 0 (fun _ => false) (fun _ => false)) => by have := cat.out B w' h hx; rw [if_pos ⟨hr, hq⟩] at this; exact this)
        rw [← e1] at hr
        have r3 : ((X - (f : Int) * 64).tmod S == 0) = true := by rw [hr]; rfl
        have r4 : decide ((X - (f : Int) * 64).tdiv S < (n : Int)) = true := decide_eq_true (by rw [e2]; exact hq)
        clear e1 e2
        go_enter Tryd.func7, Tryd.ntmps7
        go_wp2_with fail
        with_reducible refine Calls.mono (cnew) ?_
        rintro e w1 ⟨B, rfl, hb1, hlo, hs1⟩
        have hT1 := hT.below hb1
        clear cnew
        go_wp2_with fail
        with_reducible refine Calls.mono (cs.out _) ?_
        rintro e w2 ⟨rfl, hb⟩
        have hs2 := hs1.below hb
        have hT2 := hT1.below hb
        have hb2 := below_then hb1 hb
        clear hs1 hT1 hb1 hb cs
        go_wp2_with fail
        with_reducible refine Calls.mono (cat.out _ _ hs2) ?_
        rintro e w3 ⟨rfl, hb⟩
        have hs3 := hs2.below hb
        have hT3 := hT2.below hb
        have hb3 := below_then hb2 hb
        clear hs2 hT2 hb2 hb cat
        have cq : Hid (∀ j, Calls Tryd.prog 27 #[.pointer (some ⟨B.p, 0, none⟩)] (w3.drewN j) (Ans (.int .i64 n) (w3.drewN j))) := fun j => Same.ans (span_slots _ (hs3.drewN j))
        replace hs3 := Lib.hid hs3
        replace hT3 := Lib.hid hT3
        replace hb3 := Lib.hid hb3
        go_wp2_with fail
        go_quiet ((go_at_call 27; refine quiet_ans1 (cq.out _)))
        have hs4 := hs3.out.drewN nq
        have hT4 := hT3.out.drewN nq
        have hb4 := below_drewN hb3.out nq
        generalize w3.drewN nq = w4 at *
        clear hs3 hT3 hb3 cq
        go_wp2_with fail
        with_reducible refine Calls.mono (told6_any _ hT4) ?_
        rintro e w5 ⟨rfl, hb⟩
        have hs5 := hs4.below hb
        have hb5 := below_then hb4 hb
        clear hs4 hT4 hb4 hb
        go_wp2_with fail
        with_reducible refine Calls.mono (ca.out _ _ hs5) ?_
        rintro e w6 ⟨rfl, hb⟩
        replace hs5 := hs5.below hb
        replace hb5 := below_then hb5 hb
        clear hb ca
        go_wp2_with fail
        with_reducible refine Calls.mono (span_slots _ hs5) ?_
        rintro e w' ⟨rfl, rfl⟩
        go_wp2_with fail
        with_reducible refine Calls.mono (cl1.out _ _ hs5) ?_
        rintro e w6 ⟨rfl, hb⟩
        have hs6 := hs5.below hb
        have hb6 := below_then hb5 hb
        clear hs5 hb5 hb cl1
        go_wp2_with fail
        with_reducible refine Calls.mono (cp.out _) ?_
        rintro e w7 ⟨rfl, hb⟩
        have hs7 := hs6.below hb
        have hb7 := below_then hb6 hb
        clear hs6 hb6 hb cp
        go_wp2_with fail
        with_reducible refine Calls.mono (span_slots _ hs7) ?_
        rintro e w' ⟨rfl, rfl⟩
        go_wp2_with fail
        with_reducible refine Calls.mono (addr_out _ hs7) ?_
        rintro e w8 ⟨rfl, hb⟩
        have hb8 := below_then hb7 hb
        clear hs7 hb7 hb
        go_wp2_with fail
        go_ret
        exact ⟨rfl, hb8⟩
      · have d0 : decide ((f : Int) * 64 ≤ X) = true := decide_eq_true (by omega)
        obtain ⟨e1, e2⟩ := at_div (n := 0) (k := 0) s1 (show 0 ≤ X - (f : Int) * 64 by omega)
        have q0 : 0 ≤ (X - (f : Int) * 64) / S := Int.ediv_nonneg (by omega) (by omega)
        have q1 : (X - (f : Int) * 64) / S ≤ X := Int.le_trans (Int.ediv_le_self _ (by omega)) (by omega)
        replace cat := Lib.hid (fun (B : SB) w' (h : IsSpan w' B f c n 0 (fun _ => false) (fun _ => false)) => by have := cat.out B w' h hx; rw [if_neg (fun hc => hq hc.2)] at this; exact this)
        rw [← e1] at hr
        have r3 : ((X - (f : Int) * 64).tmod S == 0) = true := by rw [hr]; rfl
        have r4 : decide ((X - (f : Int) * 64).tdiv S < (n : Int)) = false := decide_eq_false (by rw [e2]; exact hq)
        clear e1 e2
        go_enter Tryd.func7, Tryd.ntmps7
        go_wp2_with fail
        with_reducible refine Calls.mono (cnew) ?_
        rintro e w1 ⟨B, rfl, hb1, hlo, hs1⟩
        have hT1 := hT.below hb1
        clear cnew
        go_wp2_with fail
        with_reducible refine Calls.mono (cs.out _) ?_
        rintro e w2 ⟨rfl, hb⟩
        have hs2 := hs1.below hb
        have hT2 := hT1.below hb
        have hb2 := below_then hb1 hb
        clear hs1 hT1 hb1 hb cs
        go_wp2_with fail
        with_reducible refine Calls.mono (cat.out _ _ hs2) ?_
        rintro e w3 ⟨rfl, hb⟩
        have hs3 := hs2.below hb
        have hT3 := hT2.below hb
        have hb3 := below_then hb2 hb
        clear hs2 hT2 hb2 hb cat
        have cq : Hid (∀ j, Calls Tryd.prog 27 #[.pointer (some ⟨B.p, 0, none⟩)] (w3.drewN j) (Ans (.int .i64 n) (w3.drewN j))) := fun j => Same.ans (span_slots _ (hs3.drewN j))
        replace hs3 := Lib.hid hs3
        replace hT3 := Lib.hid hT3
        replace hb3 := Lib.hid hb3
        go_wp2_with fail
        go_quiet ((go_at_call 27; refine quiet_ans1 (cq.out _)))
        have hs4 := hs3.out.drewN nq
        have hT4 := hT3.out.drewN nq
        have hb4 := below_drewN hb3.out nq
        generalize w3.drewN nq = w4 at *
        clear hs3 hT3 hb3 cq
        go_wp2_with fail
        with_reducible refine Calls.mono (told6_any _ hT4) ?_
        rintro e w5 ⟨rfl, hb⟩
        have hs5 := hs4.below hb
        have hb5 := below_then hb4 hb
        clear hs4 hT4 hb4 hb
        go_wp2_with fail
        with_reducible refine Calls.mono (span_slots _ hs5) ?_
        rintro e w' ⟨rfl, rfl⟩
        go_wp2_with fail
        with_reducible refine Calls.mono (cl1.out _ _ hs5) ?_
        rintro e w6 ⟨rfl, hb⟩
        have hs6 := hs5.below hb
        have hb6 := below_then hb5 hb
        clear hs5 hb5 hb cl1
        go_wp2_with fail
        with_reducible refine Calls.mono (cp.out _) ?_
        rintro e w7 ⟨rfl, hb⟩
        have hs7 := hs6.below hb
        have hb7 := below_then hb6 hb
        clear hs6 hb6 hb cp
        go_wp2_with fail
        with_reducible refine Calls.mono (span_slots _ hs7) ?_
        rintro e w' ⟨rfl, rfl⟩
        go_wp2_with fail
        with_reducible refine Calls.mono (addr_out _ hs7) ?_
        rintro e w8 ⟨rfl, hb⟩
        have hb8 := below_then hb7 hb
        clear hs7 hb7 hb
        go_wp2_with fail
        go_ret
        exact ⟨rfl, hb8⟩
    · have d0 : decide ((f : Int) * 64 ≤ X) = true := decide_eq_true (by omega)
      obtain ⟨e1, e2⟩ := at_div (n := 0) (k := 0) s1 (show 0 ≤ X - (f : Int) * 64 by omega)
      have q0 : 0 ≤ (X - (f : Int) * 64) / S := Int.ediv_nonneg (by omega) (by omega)
      have q1 : (X - (f : Int) * 64) / S ≤ X := Int.le_trans (Int.ediv_le_self _ (by omega)) (by omega)
      replace cat := Lib.hid (fun (B : SB) w' (h : IsSpan w' B f c n 0 (fun _ => false) (fun _ => false)) => by have := cat.out B w' h hx; rw [if_neg (fun hc => hr hc.1)] at this; exact this)
      rw [← e1] at hr
      have r3 : ((X - (f : Int) * 64).tmod S == 0) = false := by simpa using hr
      obtain ⟨R, hR⟩ : ∃ R, (X - (f : Int) * 64).tmod S = R := ⟨_, rfl⟩
      rw [hR] at r3
      clear e1 e2 hr q0 q1
      go_enter Tryd.func7, Tryd.ntmps7
      go_wp2_with fail
      with_reducible refine Calls.mono (cnew) ?_
      rintro e w1 ⟨B, rfl, hb1, hlo, hs1⟩
      have hT1 := hT.below hb1
      clear cnew
      go_wp2_with fail
      with_reducible refine Calls.mono (cs.out _) ?_
      rintro e w2 ⟨rfl, hb⟩
      have hs2 := hs1.below hb
      have hT2 := hT1.below hb
      have hb2 := below_then hb1 hb
      clear hs1 hT1 hb1 hb cs
      go_wp2_with fail
      with_reducible refine Calls.mono (cat.out _ _ hs2) ?_
      rintro e w3 ⟨rfl, hb⟩
      have hs3 := hs2.below hb
      have hT3 := hT2.below hb
      have hb3 := below_then hb2 hb
      clear hs2 hT2 hb2 hb cat
      have cq : Hid (∀ j, Calls Tryd.prog 27 #[.pointer (some ⟨B.p, 0, none⟩)] (w3.drewN j) (Ans (.int .i64 n) (w3.drewN j))) := fun j => Same.ans (span_slots _ (hs3.drewN j))
      replace hs3 := Lib.hid hs3
      replace hT3 := Lib.hid hT3
      replace hb3 := Lib.hid hb3
      go_wp2_with fail
      go_quiet ((go_at_call 27; refine quiet_ans1 (cq.out _)))
      have hs4 := hs3.out.drewN nq
      have hT4 := hT3.out.drewN nq
      have hb4 := below_drewN hb3.out nq
      generalize w3.drewN nq = w4 at *
      clear hs3 hT3 hb3 cq
      go_wp2_with fail
      with_reducible refine Calls.mono (told6_any _ hT4) ?_
      rintro e w5 ⟨rfl, hb⟩
      have hs5 := hs4.below hb
      have hb5 := below_then hb4 hb
      clear hs4 hT4 hb4 hb
      go_wp2_with fail
      with_reducible refine Calls.mono (span_slots _ hs5) ?_
      rintro e w' ⟨rfl, rfl⟩
      go_wp2_with fail
      with_reducible refine Calls.mono (cl1.out _ _ hs5) ?_
      rintro e w6 ⟨rfl, hb⟩
      have hs6 := hs5.below hb
      have hb6 := below_then hb5 hb
      clear hs5 hb5 hb cl1
      go_wp2_with fail
      with_reducible refine Calls.mono (cp.out _) ?_
      rintro e w7 ⟨rfl, hb⟩
      have hs7 := hs6.below hb
      have hb7 := below_then hb6 hb
      clear hs6 hb6 hb cp
      go_wp2_with fail
      with_reducible refine Calls.mono (span_slots _ hs7) ?_
      rintro e w' ⟨rfl, rfl⟩
      go_wp2_with fail
      with_reducible refine Calls.mono (addr_out _ hs7) ?_
      rintro e w8 ⟨rfl, hb⟩
      have hb8 := below_then hb7 hb
      clear hs7 hb7 hb
      go_wp2_with fail
      go_ret
      exact ⟨rfl, hb8⟩

set_option maxRecDepth 100000 in
theorem lifted (os : Os) (started : os.Started) (H : Type) (enc : TypeId × Value → H) :
    ReturnsInHanded {} Tryd.checked os 7 .any (fun w args => (Rows.spanAddrsSpec.pre enc Tryd.prog Tryd.f7 [] false w args ∧ laidMetH Tryd.prog [("math/bits.deBruijn64tab", Rows.laid_math_bits_deBruijn64tab)] w) ∧ sizedMet enc Tryd.prog Tryd.f7 (OpenSpec.ofChange Rows.spanAddrsSpec) false w args) (Rows.spanAddrsSpec.post enc Tryd.prog Tryd.f7 false true false false) := by
  refine returnsInHanded_of_change_and (C := Tryd.checked) (X := fun w _ => laidMetH Tryd.prog [("math/bits.deBruijn64tab", Rows.laid_math_bits_deBruijn64tab)] w) (fun _ _ _ hh h => h.of_heap hh) own started (by kernel_rfl) Tryd.func7
    (ChangeSpec.witness_shaped (enc := enc) (C := Tryd.checked) (os := os) (X := fun w _ => laidMetH Tryd.prog [("math/bits.deBruijn64tab", Rows.laid_math_bits_deBruijn64tab)] w) false (World.doorLaid Tryd.prog 400 os) #[.int .i64 0, .int .i64 0, .int .i64 0] 8 rfl (World.shaped_of_RefB (by kernel_rfl) (by kernel_rfl)) (by kernel_rfl) (by kernel_rfl) (by kernel_rfl) (door_met os _)) ?_
  intro W base args ds gs before hval0 hW _ _ hL _
  have hval : ∀ (j : Nat) t v, Tryd.f7.params[j]? = some t → args[j]? = some v → Value.okWide Tryd.prog W .any base t v := hval0
  have hW' := hW
  obtain ⟨p, q, hA0, hV, rfl, hfz, hnd⟩ := hW
  have hA : DataW.TrodAll enc Tryd.prog W 0 (fun _ => true) true Tryd.f7.params.toList args.toList ds p := hA0
  rw [Tryd.params7] at hA hval
  obtain ⟨v0, vs0, d0, ds0, p0, q0, hargs, rfl, rfl, h0, r0⟩ := trodAll_cons hA
  obtain ⟨v1, vs1, d1, ds1, p1, q1, rfl, rfl, rfl, h1, r1⟩ := trodAll_cons r0
  obtain ⟨v2, vs2, d2, ds2, p2, q2, rfl, rfl, rfl, h2, r2⟩ := trodAll_cons r1
  obtain ⟨rfl, rfl, rfl⟩ := trodAll_nil r2
  obtain rfl : args = #[v0, v1, v2] := by cases args; simp_all
  obtain ⟨rfl, rfl⟩ := trodVars_none hV
  obtain ⟨a0, rfl, rfl, rfl, w0⟩ := open_int Tryd.underlying3 (hval 0 3 v0 rfl rfl) h0
  obtain ⟨a1, rfl, rfl, rfl, w1⟩ := open_int Tryd.underlying3 (hval 1 3 v1 rfl rfl) h1
  obtain ⟨a2, rfl, rfl, rfl, w2⟩ := open_int Tryd.underlying3 (hval 2 3 v2 rfl rfl) h2
  clear hA0 hval0
  simp only [List.append_nil] at hW'
  refine (walk a0 a1 a2 W (tab_of_laid hL)).mono fun e W' ⟨he, hg⟩ => ?_
  subst he
  exact ⟨_, rfl, post_of_kept (pa := _) (pv := []) hW' (fun _ _ _ => (trodAll_cons_mk (shut_bool Tryd.underlying4 _) trodAll_mk0)) (trodAll_cons_mk (shut_int Tryd.underlying3 w0) (trodAll_cons_mk (shut_int Tryd.underlying3 w1) (trodAll_cons_mk (shut_int Tryd.underlying3 w2) trodAll_mk0))) (fun _ _ => rfl) (by simp) hg⟩

theorem over : Rows.spanAddrsRow.holds Tryd.pinned (OpenSpec.ofChange Rows.spanAddrsSpec) :=
  OpenClaim.holds_of_wide 7 Tryd.f7 rfl rfl rfl rfl rfl rfl rfl ⟨rfl, rfl, rfl, rfl, rfl⟩ rfl rfl rfl rfl rfl (by kernel_rfl) Tryd.func7 (by kernel_rfl)
    (of_decide_eq_true (by kernel_rfl)) (by unfold Func.isWrapper; first | (rw [if_pos (by decide +kernel)]; kernel_rfl) | (rw [if_neg (by decide +kernel)]; exact ⟨rfl, rfl⟩))
    (fun os started H enc _ => lifted os started H enc)

theorem proved : Rows.SpanAddrsCardSaid :=
  Claim7.holds_tied_plain_at .later [] [.data] true Rows.spanAddrsCard.stood.harness false
    over (fun _ h => by cases h) (by kernel_rfl) (fun _ h => by cases h) spanAddrs_row_tie rfl ⟨rfl, rfl⟩ (by kernel_rfl) rfl
    (fun f fn hf hfn => by
      obtain rfl : f = 7 := Option.some.inj ((show Tryd.prog.funcNamed "treadmill/treadmilllaw6.SpanAddrs" = some 7 by kernel_rfl).symm.trans hf) |>.symm
      obtain rfl : fn = Tryd.f7 := (Option.some.inj (Tryd.func7.symm.trans hfn)).symm
      exact ⟨by kernel_rfl, fun j t ht => by
        rw [Tryd.params7] at ht
        have hm : t ∈ [3] := by simpa using Array.mem_of_getElem? ht
        have hall : ([3].all fun u => !Tryd.prog.wantsStandIn u) = true := by kernel_rfl
        exact (show Tryd.prog.wantsStandIn t = false by simpa using List.all_eq_true.1 hall t hm)⟩)
    (by kernel_rfl)
#print axioms proved
end Go.Proofs.YtoamabmnbldgkaaDoor.spanAddrs
