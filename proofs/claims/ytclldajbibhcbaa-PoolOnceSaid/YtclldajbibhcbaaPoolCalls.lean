/- A pool's calls: Put, Get, Give, Flush, and what is told of it. -/
import Derived.Test.YtclldajbibhcbaaPoolCh
namespace Go.Proofs.Ytclldajbibhcbaa
open Go.RowKit Go.Lib Fx Ho Qu Bu Gr
set_option linter.unusedVariables false
namespace Po
variable {w w' W W0 : World} {p B ps nf ne nf' ne' : Nat} {ad : Nat → Nat → Nat} {c c' : Nat → Nat → List Int} {G M H H' K M' : Home} {a : Nat → Value} {fv ev v : Value} {xf xe xs : List Value} {s : St} {n i : Nat}
theorem bput_any (h : At K w p B ps a fv ev ad s M G) (hi : i < ps) (hl : (s.o i).length < 32) (g : Int) : Calls Try.prog 67 #[.pointer (some ⟨ad 0 i, 0, none⟩), .int .i64 g] w fun e w' => e = .returned (.bool true) ∧ Is K w' p B ps (sSet s i (s.o i ++ [g])) ∧ Wrote K w K w' :=
  (Bu.put_room g hl (h.b0 hi)).mono fun _ _ ⟨he, ht, hb⟩ => ⟨he, h.set hi ht hb⟩
/-- The call answers r; all is so then, and outside of K nothing has turned. -/
def Did (r : Value) (K : Home) (w : World) (p B ps : Nat) (s : St) (e : Ending) (w' : World) : Prop := e = .returned r ∧ Is K w' p B ps s ∧ Wrote K w K w'
set_option maxRecDepth 100000 in
set_option maxHeartbeats 1000000 in
theorem put_any (h : Is K w p B ps s) (hi : i < ps) (hps : ps ≤ 64) (hF : s.F.length ≤ 90000) (hE : s.e ≤ 90000) {g : Int} (hg : g ≠ 0) : Calls Try.prog 56 #[.pointer (some ⟨p, 0, none⟩), .int .i64 i, .int .i64 g] w (Did (.int .i64 0) K w p B ps (sPut s i g)) := by
  obtain ⟨a, fv, ev, ad, M, G, h⟩ := h
  have co := of_in i hi hps h.m
  have hg0 : (g == 0) = false := by rw [beq_eq_false_iff_ne]; exact hg
  have hso : (s.o i).length ≤ 32 := (h.b0 hi).small
  have d1 := h.c1 hi
  have d2 := h.c2 hi
  have cf := full_any (h.b0 hi)
  by_cases h1 : (s.o i).length = 32
  · rw [decide_eq_true h1] at cf
    have ct := turn_any d1 d2 (h.m.fa _) (h.m.fa _)
    have e1 : sPut1 s i = sTurn s i := by unfold sPut1; rw [if_pos h1]
    have hT : Hid (∀ w2 : World, w2.heap = ((w.setCell ⟨B, i * 3, none⟩ (ptr (ad 1 i))).setCell ⟨B, i * 3 + 1, none⟩ (ptr (ad 0 i))).heap → w2.os = w.os → w2.tape = w.tape → w2.output = w.output → Is K w2 p B ps (sTurn s i) ∧ Wrote K w K w2) := Lib.hid fun w2 g1 g2 g3 g4 => h.turn hi g1 g2 g3 g4
    have hF2 : (sTurn s i).F.length ≤ 90000 := hF
    have hE2 : (sTurn s i).e ≤ 90000 := hE
    unfold sPut
    rw [e1]
    clear e1
    clear h hF hE hso h1
    generalize sTurn s i = S at *
    unfold ptr at *
    go_enter Try.func56, Try.ntmps56
    go_wp2_with fail
    with_reducible refine Calls.mono (co) ?_
    rintro e w' ⟨rfl, rfl⟩
    go_wp2_with fail
    with_reducible refine Calls.mono (cf) ?_
    rintro e w' ⟨rfl, rfl⟩
    go_wp2_with fail
    with_reducible refine Calls.mono (ct) ?_
    rintro e w2 ⟨rfl, g1, g2, g3, g4⟩
    obtain ⟨hS, hwr⟩ := hT.out w2 g1 g2 g3 g4
    clear g1 g2 g3 g4 hT d1 d2 cf co ct
    replace hwr := Lib.hid hwr
    obtain ⟨a2, fv2, ev2, ad2, M2, G2, h⟩ := hS
    have hso : (S.o i).length ≤ 32 := (h.b0 hi).small
    have d1 := h.c1 hi
    have cf := full_any (h.b0 hi)
    by_cases h1 : (S.o i).length = 32
    · rw [decide_eq_true h1] at cf
      have cc := ch0_any h hi hps (by omega) (by omega)
      have e1 : sPut2 S i = sCh0 S i := by unfold sPut2; rw [if_pos h1]
      have hP : Hid (∀ x y w4, Post0 K w2 p B ps S i x y w4 → w4.cell? ⟨B, i * 3, none⟩ = some (.pointer (some ⟨y, 0, none⟩)) ∧ w4.frozen? ⟨B, i * 3, none⟩ = false ∧ Hid (∀ W, W = w4.setCell ⟨B, i * 3, none⟩ (.pointer (some ⟨x, 0, none⟩)) → ∃ y2, W.cell? ⟨B, i * 3, none⟩ = some (.pointer (some ⟨y2, 0, none⟩)) ∧ Calls Try.prog 67 #[.pointer (some ⟨y2, 0, none⟩), .int .i64 g] W fun e w' => e = .returned (.bool true) ∧ Is K w' p B ps (sSet (sCh0 S i) i ((sCh0 S i).o i ++ [g])) ∧ Wrote K w2 K w')) := Lib.hid fun x y w4 ⟨f1, f2, f3⟩ => ⟨f1, f2, Lib.hid fun W eW => by
        obtain ⟨hI, hwt⟩ := f3.out W eW
        obtain ⟨a3, fv3, ev3, ad3, M3, G3, h3⟩ := hI
        have hl : ((sCh0 S i).o i).length < 32 := by simp [sCh0, up_same]
        exact ⟨ad3 0 i, h3.c1 hi, (bput_any (s := sCh0 S i) h3 hi hl g).mono fun e w' ⟨he, h4, h5⟩ => ⟨he, h4, hwt.trans h5⟩⟩⟩
      replace e1 := Lib.hid e1
      clear h h1 hso
      unfold ptr at *
      go_wp2_with fail
      with_reducible refine Calls.mono (cf) ?_
      rintro e w' ⟨rfl, rfl⟩
      go_wp2_with fail
      with_reducible refine Calls.mono (cc) ?_
      rintro e w4 ⟨x, rfl, hp⟩
      obtain ⟨f1, f2, f3⟩ := hP.out x _ w4 hp
      obtain ⟨y2, f4, cb⟩ := f3.out _ rfl
      clear hP hp f3 cc cf d1
      go_wp2_with fail
      with_reducible refine Calls.mono (cb) ?_
      rintro e w5 ⟨rfl, k1, k2⟩
      rw [← e1.out] at k1
      have hfin := Lib.hid (And.intro k1 (hwr.out.trans k2))
      clear k1 k2 cb f1 f2 f4 e1
      go_wp2_with fail
      go_ret
      exact ⟨rfl, hfin.out⟩
    · rw [decide_eq_false h1] at cf
      have e1 : sPut2 S i = S := by unfold sPut2; rw [if_neg h1]
      have cb := bput_any h hi (by omega) g
      replace e1 := Lib.hid e1
      clear h h1 hso
      unfold ptr at *
      go_wp2_with fail
      with_reducible refine Calls.mono (cf) ?_
      rintro e w' ⟨rfl, rfl⟩
      go_wp2_with fail
      with_reducible refine Calls.mono (cb) ?_
      rintro e w5 ⟨rfl, k1, k2⟩
      have k3 : Is K w5 p B ps (sSet (sPut2 S i) i ((sPut2 S i).o i ++ [g])) := by rw [e1.out]; exact k1
      have hfin := Lib.hid (And.intro k3 (hwr.out.trans k2))
      clear k1 k2 k3 cb cf d1 e1
      go_wp2_with fail
      go_ret
      exact ⟨rfl, hfin.out⟩
  · rw [decide_eq_false h1] at cf
    have e1 : sPut1 s i = s := by unfold sPut1; rw [if_neg h1]
    have e2 : sPut2 s i = s := by unfold sPut2; rw [if_neg h1]
    have cb := bput_any h hi (by omega) g
    unfold sPut
    rw [e1, e2]
    clear e1 e2 h h1 hso d2 hF hE
    unfold ptr at *
    go_enter Try.func56, Try.ntmps56
    go_wp2_with fail
    with_reducible refine Calls.mono (co) ?_
    rintro e w' ⟨rfl, rfl⟩
    go_wp2_with fail
    with_reducible refine Calls.mono (cf) ?_
    rintro e w' ⟨rfl, rfl⟩
    go_wp2_with fail
    with_reducible refine Calls.mono (cf) ?_
    rintro e w' ⟨rfl, rfl⟩
    go_wp2_with fail
    with_reducible refine Calls.mono (cb) ?_
    rintro e w5 ⟨rfl, k1, k2⟩
    have hfin := Lib.hid (And.intro k1 k2)
    clear k1 k2 cb cf d1 co
    go_wp2_with fail
    go_ret
    exact ⟨rfl, hfin.out⟩
set_option maxRecDepth 100000 in
theorem put_zero (h : Is K w p B ps s) (hi : i < ps) (hps : ps ≤ 64) : Calls Try.prog 56 #[.pointer (some ⟨p, 0, none⟩), .int .i64 i, .int .i64 0] w (Still (.int .i64 1) w) := by
  obtain ⟨a, fv, ev, ad, M, G, h⟩ := h
  have co := of_in i hi hps h.m
  clear h
  go_enter Try.func56, Try.ntmps56
  go_wp2_with fail
  with_reducible refine Calls.mono (co) ?_
  rintro e w' ⟨rfl, rfl⟩
  go_wp2_with fail
  go_ret
  exact ⟨rfl, rfl⟩
set_option maxRecDepth 100000 in
set_option maxHeartbeats 1000000 in
theorem flush_any (h : Is K w p B ps s) (hi : i < ps) (hps : ps ≤ 64) (hF : s.F.length ≤ 90000) (hE : s.e ≤ 90000) : Calls Try.prog 61 #[.pointer (some ⟨p, 0, none⟩), .int .i64 i] w (Did (.tuple #[]) K w p B ps (sFlush s i)) := by
  obtain ⟨a, fv, ev, ad, M, G, h⟩ := h
  have co := of_in i hi hps h.m
  have d1 := h.c1 hi
  have cl := Bu.len_any (h.b0 hi)
  -- the second one, from wherever
  have h2 : Hid (∀ w2 S, Is K w2 p B ps S → S.F.length ≤ 90001 → S.e ≤ 90001 → Wrote K w K w2 → ∃ y, w2.cell? ⟨B, i * 3 + 1, none⟩ = some (.pointer (some ⟨y, 0, none⟩)) ∧ Calls Try.prog 73 #[.pointer (some ⟨y, 0, none⟩)] w2 (Still (.int .i64 ((S.t i).length : Nat)) w2) ∧ Hid (¬ 0 < (S.t i).length → Is K w2 p B ps (sFl2 S i) ∧ Wrote K w K w2) ∧ Hid (0 < (S.t i).length → Calls Try.prog 118 #[.pointer (some ⟨p, 0, none⟩), .pointer (some ⟨B, i * 3, none⟩), .pointer (some ⟨y, 0, none⟩)] w2 fun e w4 => ∃ x, e = .returned (.pointer (some ⟨x, 0, none⟩)) ∧ w4.cell? ⟨B, i * 3 + 1, none⟩ = some (.pointer (some ⟨y, 0, none⟩)) ∧ w4.frozen? ⟨B, i * 3 + 1, none⟩ = false ∧ Hid (∀ W, W = w4.setCell ⟨B, i * 3 + 1, none⟩ (.pointer (some ⟨x, 0, none⟩)) → Is K W p B ps (sFl2 S i) ∧ Wrote K w K W))) := Lib.hid fun w2 S hS hF hE hw => by
    obtain ⟨a, fv, ev, ad, M, G, h⟩ := hS
    refine ⟨ad 1 i, h.c2 hi, Bu.len_any (h.b1 hi), Lib.hid fun h0 => ?_, Lib.hid fun h0 => ?_⟩
    · unfold sFl2; rw [if_neg h0]; exact ⟨⟨_, _, _, _, _, _, h⟩, hw⟩
    · refine (ch1_any h hi hps (by omega) (by omega)).mono fun e w4 ⟨x, he, f1, f2, f3⟩ => ⟨x, he, f1, f2, Lib.hid fun W eW => ?_⟩
      obtain ⟨g1, g2⟩ := f3.out W eW
      unfold sFl2; rw [if_pos h0]
      exact ⟨g1, hw.trans g2⟩
  unfold sFlush
  by_cases h1 : 0 < (s.o i).length
  · have cc := ch0_any h hi hps (by omega) (by omega)
    have e1 : sFl1 s i = sCh0 s i := by unfold sFl1; rw [if_pos h1]
    have hl1 : (0 : Int) < ((s.o i).length : Int) := by omega
    have hP : Hid (∀ x y w4, Post0 K w p B ps s i x y w4 → w4.cell? ⟨B, i * 3, none⟩ = some (.pointer (some ⟨y, 0, none⟩)) ∧ w4.frozen? ⟨B, i * 3, none⟩ = false ∧ Hid (∀ W, W = w4.setCell ⟨B, i * 3, none⟩ (.pointer (some ⟨x, 0, none⟩)) → Is K W p B ps (sCh0 s i) ∧ Wrote K w K W)) := Lib.hid fun x y w4 hp => hp
    have hF1 : (sCh0 s i).F.length ≤ 90001 := by simp [sCh0]; omega
    have hE1 : (sCh0 s i).e ≤ 90001 := by simp [sCh0]; omega
    rw [e1]
    clear e1 h h1 hF hE
    generalize sCh0 s i = S at *
    generalize (s.o i).length = l at *
    unfold ptr at *
    go_enter Try.func61, Try.ntmps61
    go_wp2_with fail
    with_reducible refine Calls.mono (co) ?_
    rintro e w' ⟨rfl, rfl⟩
    go_wp2_with fail
    with_reducible refine Calls.mono (cl) ?_
    rintro e w' ⟨rfl, rfl⟩
    go_wp2_with fail
    with_reducible refine Calls.mono (cc) ?_
    rintro e w4 ⟨x, rfl, hp⟩
    obtain ⟨f1, f2, f3⟩ := hP.out x _ w4 hp
    obtain ⟨hS, hwr⟩ := f3.out _ rfl
    obtain ⟨y, d2, cl2, hn, hy⟩ := h2.out _ S hS hF1 hE1 hwr
    rw [World.cell?_setCell_other _ _ _ _ (fun e => by have := congrArg Addr.off e; simp at this)] at d2
    clear hP hp f3 cc cl co d1 h2 hS hwr hF1 hE1
    by_cases h0 : 0 < (S.t i).length
    · have cc := hy.out h0
      have hl2 : (0 : Int) < ((S.t i).length : Int) := by omega
      clear hn hy h0
      generalize (S.t i).length = m at *
      go_wp2_with fail
      with_reducible refine Calls.mono (cl2) ?_
      rintro e w' ⟨rfl, rfl⟩
      go_wp2_with fail
      with_reducible refine Calls.mono (cc) ?_
      rintro e w6 ⟨x6, rfl, f1, f2, f3⟩
      have hfin := Lib.hid (f3.out _ rfl)
      clear f3 cc cl2 d2
      go_wp2_with fail
      go_end0
      exact ⟨rfl, hfin.out⟩
    · have hfin := Lib.hid (hn.out h0)
      have hl2 : ¬ (0 : Int) < ((S.t i).length : Int) := by omega
      clear hn hy h0
      generalize (S.t i).length = m at *
      go_wp2_with fail
      with_reducible refine Calls.mono (cl2) ?_
      rintro e w' ⟨rfl, rfl⟩
      clear cl2 d2
      go_wp2_with fail
      go_end0
      exact ⟨rfl, hfin.out⟩
  · have e1 : sFl1 s i = s := by unfold sFl1; rw [if_neg h1]
    have hl1 : ¬ (0 : Int) < ((s.o i).length : Int) := by omega
    obtain ⟨y, d2, cl2, hn, hy⟩ := h2.out w s ⟨_, _, _, _, _, _, h⟩ (by omega) (by omega) (Wrote.refl _ _)
    rw [e1]
    clear e1 h h1 hF hE h2
    generalize (s.o i).length = l at *
    unfold ptr at *
    by_cases h0 : 0 < (s.t i).length
    · have cc := hy.out h0
      have hl2 : (0 : Int) < ((s.t i).length : Int) := by omega
      clear hn hy h0
      generalize (s.t i).length = m at *
      go_enter Try.func61, Try.ntmps61
      go_wp2_with fail
      with_reducible refine Calls.mono (co) ?_
      rintro e w' ⟨rfl, rfl⟩
      go_wp2_with fail
      with_reducible refine Calls.mono (cl) ?_
      rintro e w' ⟨rfl, rfl⟩
      go_wp2_with fail
      with_reducible refine Calls.mono (cl2) ?_
      rintro e w' ⟨rfl, rfl⟩
      go_wp2_with fail
      with_reducible refine Calls.mono (cc) ?_
      rintro e w6 ⟨x6, rfl, f1, f2, f3⟩
      have hfin := Lib.hid (f3.out _ rfl)
      clear f3 cc cl2 cl d2 co d1
      go_wp2_with fail
      go_end0
      exact ⟨rfl, hfin.out⟩
    · have hfin := Lib.hid (hn.out h0)
      have hl2 : ¬ (0 : Int) < ((s.t i).length : Int) := by omega
      clear hn hy h0
      generalize (s.t i).length = m at *
      go_enter Try.func61, Try.ntmps61
      go_wp2_with fail
      with_reducible refine Calls.mono (co) ?_
      rintro e w' ⟨rfl, rfl⟩
      go_wp2_with fail
      with_reducible refine Calls.mono (cl) ?_
      rintro e w' ⟨rfl, rfl⟩
      go_wp2_with fail
      with_reducible refine Calls.mono (cl2) ?_
      rintro e w' ⟨rfl, rfl⟩
      clear cl2 cl d2 co d1
      go_wp2_with fail
      go_end0
      exact ⟨rfl, hfin.out⟩
end Po
end Go.Proofs.Ytclldajbibhcbaa
