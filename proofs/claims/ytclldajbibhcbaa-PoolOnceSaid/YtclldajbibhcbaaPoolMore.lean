/- Give of a pool, and what is told of it; New. -/
import Derived.Test.YtclldajbibhcbaaPoolGet
namespace Go.Proofs.Ytclldajbibhcbaa
open Go.RowKit Go.Lib Fx Ho Qu Bu Gr
set_option linter.unusedVariables false
namespace Po
variable {w w' W W0 : World} {p B ps nf ne nf' ne' : Nat} {ad : Nat → Nat → Nat} {c c' : Nat → Nat → List Int} {G M H H' K M' : Home} {a : Nat → Value} {fv ev v : Value} {xf xe xs : List Value} {s : St} {n i : Nat}
set_option maxRecDepth 100000 in
set_option maxHeartbeats 1000000 in
theorem give_any (h : Is K w p B ps s) (hi : i < ps) (hps : ps ≤ 64) (hF : s.F.length ≤ 90000) (hE : s.e ≤ 90000) : Calls Try.prog 65 #[.pointer (some ⟨p, 0, none⟩), .int .i64 i] w (Did (.bool (sGave s i)) K w p B ps (sGive s i)) := by
  obtain ⟨a, fv, ev, ad, M, G, h⟩ := h
  have co := of_in i hi hps h.m
  have d1 := h.c1 hi
  have d2 := h.c2 hi
  have cl1 := Bu.len_any (h.b0 hi)
  have cl2 := Bu.len_any (h.b1 hi)
  unfold sGave sGive
  by_cases h2 : 0 < (s.t i).length
  · have cc := ch1_any h hi hps (by omega) (by omega)
    have hl2 : (0 : Int) < ((s.t i).length : Int) := by omega
    have hP : Hid (∀ x y w4, Post1 K w p B ps s i x y w4 → w4.cell? ⟨B, i * 3 + 1, none⟩ = some (.pointer (some ⟨y, 0, none⟩)) ∧ w4.frozen? ⟨B, i * 3 + 1, none⟩ = false ∧ Hid (∀ W, W = w4.setCell ⟨B, i * 3 + 1, none⟩ (.pointer (some ⟨x, 0, none⟩)) → Is K W p B ps (sCh1 s i) ∧ Wrote K w K W)) := Lib.hid fun x y w4 hp => hp
    rw [decide_eq_true h2, Bool.true_or, if_pos h2]
    clear h h2 hF hE
    generalize sCh1 s i = S at *
    generalize (s.t i).length = l at *
    unfold ptr at *
    go_enter Try.func65, Try.ntmps65
    go_wp2_with fail
    with_reducible refine Calls.mono (co) ?_
    rintro e w' ⟨rfl, rfl⟩
    go_wp2_with fail
    with_reducible refine Calls.mono (cl2) ?_
    rintro e w' ⟨rfl, rfl⟩
    go_wp2_with fail
    with_reducible refine Calls.mono (cc) ?_
    rintro e w4 ⟨x, rfl, hp⟩
    obtain ⟨f1, f2, f3⟩ := hP.out x _ w4 hp
    have hfin := Lib.hid (f3.out _ rfl)
    clear hP hp f3 cc cl1 cl2 co d1 d2
    go_wp2_with fail
    go_ret
    exact ⟨rfl, hfin.out⟩
  · rw [decide_eq_false h2, Bool.false_or, if_neg h2]
    have hl2 : ¬ (0 : Int) < ((s.t i).length : Int) := by omega
    by_cases h4 : 4 < (s.o i).length
    · rw [decide_eq_true h4, if_pos h4]
      have hl4 : (4 : Int) < ((s.o i).length : Int) := by omega
      have hso := (h.b0 hi).small
      have hoff : Off G M := fun k g1 g2 => h.off k g2 g1
      have d3 := h.c3 hi
      have cn := Bu.new_any w
      have hP : Hid (∀ w2, Below w.heap.size w w2 → IsBuf w2 w.heap.size [] → w2.cell? ⟨B, i * 3, none⟩ = some (.pointer (some ⟨ad 0 i, 0, none⟩)) ∧ Hid (Calls Try.prog 71 #[.pointer (some ⟨ad 0 i, 0, none⟩), .pointer (some ⟨w.heap.size, 0, none⟩)] w2 fun e w3 => e = .returned (.int .i64 ((s.o i).length / 2 : Nat)) ∧ Hid (Calls Try.prog 119 #[.pointer (some ⟨p, 1, none⟩), .pointer (some ⟨w.heap.size, 0, none⟩)] w3 fun e w4 => e = .returned (.tuple #[]) ∧ w4.cell? ⟨B, i * 3 + 2, none⟩ = some (.bool (s.fl i)) ∧ w4.frozen? ⟨B, i * 3 + 2, none⟩ = false ∧ Hid (∀ W, W = w4.setCell ⟨B, i * 3 + 2, none⟩ (.bool true) → Is K W p B ps (sHalf s i ((s.o i).length - (s.o i).length / 2)) ∧ Wrote K w K W)))) := Lib.hid fun w2 hb2 hi2 => by
        have m2 := h.m.below hb2
        have b2 := h.b.more (x := w.heap.size) (c' := fun k l => if k = 3 ∧ l = s.e then [] else cont s.o s.t s.F k l) hb2 (Nat.le_refl _) hi2 (fun _ _ _ => rfl)
        have o2 : Off (fun b => G b ∨ b = w.heap.size) M := fun k g1 g2 => g1.elim (fun g1 => hoff k g1 g2) (fun g1 => by have := h.m.lt k g2; omega)
        have s0 : Slot ps s.F.length (s.e + 1) 0 i := Or.inl ⟨by omega, hi⟩
        have s3 : Slot ps s.F.length (s.e + 1) 3 s.e := Or.inr (Or.inr ⟨rfl, by omega⟩)
        have x0 : IsBuf w2 (ad 0 i) (s.o i) := (h.b0 hi).below hb2
        have hne : ad 0 i ≠ w.heap.size := fun e => by have := (h.b0 hi).lt; omega
        refine ⟨by rw [m2.ca (by omega), h.one i hi], Lib.hid ((Bu.half_ok (n := (s.o i).length / 2) (k := (s.o i).length - (s.o i).length / 2) rfl (by omega) (by simp; omega) hne x0 hi2).mono fun e w3 ⟨he, hw3, y1, y2⟩ => ⟨he, Lib.hid ?_⟩)⟩
        have hG0 : G (ad 0 i) := h.b.hb 0 i (h.ok1 hi).1
        have o3 : Off M (both (ad 0 i) w.heap.size) := fun k g1 g2 => g2.elim (fun e => h.off k g1 (by rw [show k = ad 0 i from e]; exact hG0)) (fun e => by have := h.m.lt k g1; omega)
        have m3 := m2.wrote hw3 o3
        have b3 := b2.two (k0 := 0) (i0 := i) (k1 := 3) (i1 := s.e) (L := (s.o i).take ((s.o i).length - (s.o i).length / 2)) (L2 := [] ++ (s.o i).drop ((s.o i).length - (s.o i).length / 2)) (c' := fun k l => if k = 0 ∧ l = i then (s.o i).take ((s.o i).length - (s.o i).length / 2) else if k = 3 ∧ l = s.e then [] ++ (s.o i).drop ((s.o i).length - (s.o i).length / 2) else (if k = 3 ∧ l = s.e then [] else cont s.o s.t s.F k l)) s0 s3 (by simpa using hw3) (by simpa using y1) (by simpa using y2) (fun _ _ _ => rfl)
        refine (push_any (p := p) (j := 1) (x := w.heap.size) m3.c1 (m3.fz 1) m3.full m3.fp (by omega)).mono fun e w4 ⟨he4, v', w1, hg, hw1, e4⟩ => ?_
        subst e4
        obtain ⟨k1, m4⟩ := m3.setf hw1 hg
        refine ⟨he4, by rw [m4.ca (by omega), h.flg i hi], m4.fa _, Lib.hid fun W eW => ?_⟩
        subst eW
        obtain ⟨k2, m5⟩ := m4.seta (j := i * 3 + 2) (by omega) (.bool true)
        have o4 := k1.off o2 b3.lt
        have b4 := (b3.wrote k1 o2).wrote k2 o4
        have hw23 : Wrote K w K w3 := (wrote_big (Wrote.of_below (H := fun _ => False) hb2) (fun _ h => h.elim)).trans ⟨hw3.os, hw3.tape, hw3.output, hw3.size, fun k hk hn => hw3.block k hk (fun e => e.elim (fun e => hn (by rw [show k = ad 0 i from e]; exact h.kg _ hG0)) (fun e => hn (h.kn k (by omega)))), fun k hk => Or.inl hk⟩
        have hwW := hw23.trans (wrote_big (k1.trans k2) h.km)
        exact h.halved (k0 := (s.o i).length - (s.o i).length / 2) hi hwW.block hwW.os hwW.tape hwW.output hwW.size m5 b4 (by simp) (fun k l hs => ⟨by
          unfold Slot at hs; rw [if_neg (by omega)], by
          unfold Slot at hs
          by_cases e : k = 0 ∧ l = i
          · simp only [if_pos e]
          · simp only [if_neg e]; rw [if_neg (by omega), if_neg (by omega)]⟩) (by simp) (fun k g1 g2 => o4 k g2 g1) (fun k hk => hk.elim (h.kg k) (fun e => h.kn k (by omega))) (fun k hk => (k1.home k hk).elim (h.km k) (fun g => h.kn k (Nat.le_trans hw23.size g)))
      have hwz : Hid (∀ w2 : World, Below w.heap.size w w2 → w.heap.size ≤ w2.heap.size) := Lib.hid fun w2 hb => hb.size
      clear h hF hE h2 h4 hso hoff
      generalize sHalf s i ((s.o i).length - (s.o i).length / 2) = S at *
      generalize hh : (s.o i).length / 2 = hf at *
      clear hh
      generalize (s.o i).length = l at *
      generalize (s.t i).length = l2 at *
      unfold ptr at *
      go_enter Try.func65, Try.ntmps65
      go_wp2_with fail
      with_reducible refine Calls.mono (co) ?_
      rintro e w' ⟨rfl, rfl⟩
      go_wp2_with fail
      with_reducible refine Calls.mono (cl2) ?_
      rintro e w' ⟨rfl, rfl⟩
      go_wp2_with fail
      with_reducible refine Calls.mono (cl1) ?_
      rintro e w' ⟨rfl, rfl⟩
      go_wp2_with fail
      with_reducible refine Calls.mono (cn) ?_
      rintro e w2 ⟨rfl, hb2, hi2⟩
      obtain ⟨f1, c2⟩ := hP.out w2 hb2 hi2
      clear hP hb2 hi2 cl1 cl2 co cn d1 d2 d3 hwz
      go_wp2_with fail
      with_reducible refine Calls.mono (c2.out) ?_
      rintro e w3 ⟨rfl, c3⟩
      clear c2 f1
      go_wp2_with fail
      with_reducible refine Calls.mono (c3.out) ?_
      rintro e w4 ⟨rfl, f2, f3, hE⟩
      have hfin := Lib.hid (hE.out _ rfl)
      clear c3 hE
      go_wp2_with fail
      go_ret
      exact ⟨rfl, hfin.out⟩
    · rw [decide_eq_false h4, if_neg h4]
      have hl4 : ¬ (4 : Int) < ((s.o i).length : Int) := by omega
      have hfin : Hid (Is K w p B ps s ∧ Wrote K w K w) := Lib.hid ⟨⟨_, _, _, _, _, _, h⟩, Wrote.refl _ _⟩
      clear h hF hE h2 h4
      generalize (s.o i).length = l at *
      generalize (s.t i).length = l2 at *
      unfold ptr at *
      go_enter Try.func65, Try.ntmps65
      go_wp2_with fail
      with_reducible refine Calls.mono (co) ?_
      rintro e w' ⟨rfl, rfl⟩
      go_wp2_with fail
      with_reducible refine Calls.mono (cl2) ?_
      rintro e w' ⟨rfl, rfl⟩
      go_wp2_with fail
      with_reducible refine Calls.mono (cl1) ?_
      rintro e w' ⟨rfl, rfl⟩
      clear cl1 cl2 co d1 d2
      go_wp2_with fail
      go_ret
      exact ⟨rfl, hfin.out⟩
set_option maxRecDepth 100000 in
set_option maxHeartbeats 1000000 in
theorem local_any (h : Is K w p B ps s) (hi : i < ps) (hps : ps ≤ 64) : Calls Try.prog 60 #[.pointer (some ⟨p, 0, none⟩), .int .i64 i] w (Ans (.int .i64 (((s.o i).length + (s.t i).length : Nat) : Int)) w) := by
  obtain ⟨a, fv, ev, ad, M, G, h⟩ := h
  have co := of_in i hi hps h.m
  have d1 := h.c1 hi
  have d2 := h.c2 hi
  have hs1 := (h.b0 hi).small
  have hs2 := (h.b1 hi).small
  have cl1 : ∀ k, Calls Try.prog 73 #[.pointer (some ⟨ad 0 i, 0, none⟩)] (w.drewN k) (Ans (.int .i64 (s.o i).length) (w.drewN k)) := fun k => ans_of_same (Bu.len_any ((h.b0 hi).below (below_drewN (Below.refl _ _) k)))
  have cl2 : ∀ k, Calls Try.prog 73 #[.pointer (some ⟨ad 1 i, 0, none⟩)] (w.drewN k) (Ans (.int .i64 (s.t i).length) (w.drewN k)) := fun k => ans_of_same (Bu.len_any ((h.b1 hi).below (below_drewN (Below.refl _ _) k)))
  clear h
  push_cast
  replace cl1 := Lib.hid cl1
  replace cl2 := Lib.hid cl2
  have l1 : (0 : Int) ≤ ((s.o i).length : Int) := by omega
  have l2 : ((s.o i).length : Int) ≤ 32 := by omega
  have l3 : (0 : Int) ≤ ((s.t i).length : Int) := by omega
  have l4 : ((s.t i).length : Int) ≤ 32 := by omega
  generalize (s.o i).length = m1 at *
  generalize (s.t i).length = m2 at *
  unfold ptr at *
  go_enter Try.func60, Try.ntmps60
  go_wp2_with fail
  with_reducible refine Calls.mono (co) ?_
  rintro e w' ⟨rfl, rfl⟩
  have hsum : IntKind.i64.wrap ((m1 : Int) + (m2 : Int)) = (m1 : Int) + (m2 : Int) := by rw [IntKind.wrap_i64]; omega
  go_wp2_with fail
  go_quiet ((first | (go_at_call 73; exact quiet_ans1 (cl1.out _)) | (go_at_call 73; exact quiet_ans1 (cl2.out _))))
  go_wp2_with fail
  go_ret
  exact ⟨rfl, _, rfl⟩
set_option maxRecDepth 100000 in
set_option maxHeartbeats 1000000 in
theorem lists_any (h : Is K w p B ps s) : Calls Try.prog 63 #[.pointer (some ⟨p, 0, none⟩)] w (Ans (.tuple #[.int .i64 s.F.length, .int .i64 s.e]) w) := by
  obtain ⟨a, fv, ev, ad, M, G, h⟩ := h
  have c1 := h.m.c1
  have c2 := h.m.c2
  obtain ⟨s1, k1, e1⟩ := h.m.full.slice
  obtain ⟨s2, k2, e2⟩ := h.m.empt.slice
  subst e1 e2
  clear h
  generalize s.F.length = m1 at *
  generalize s.e = m2 at *
  go_enter Try.func63, Try.ntmps63
  go_wp2_with fail
  go_quiet (fail)
  go_wp2_with fail
  go_ret2
  exact ⟨rfl, _, rfl⟩
set_option maxRecDepth 100000 in
theorem flushed_any (h : Is K w p B ps s) (hi : i < ps) (hps : ps ≤ 64) : Calls Try.prog 57 #[.pointer (some ⟨p, 0, none⟩), .int .i64 i] w (Still (.bool (s.fl i)) w) := by
  obtain ⟨a, fv, ev, ad, M, G, h⟩ := h
  have co := of_in i hi hps h.m
  have d3 := h.c3 hi
  clear h
  generalize s.fl i = b at *
  go_enter Try.func57, Try.ntmps57
  go_wp2_with fail
  with_reducible refine Calls.mono (co) ?_
  rintro e w' ⟨rfl, rfl⟩
  go_wp2_with fail
  go_ret
  exact ⟨rfl, rfl⟩
theorem At.flag (h : At K w p B ps a fv ev ad s M G) (hi : i < ps) (b : Bool) : Is K (w.setCell ⟨B, i * 3 + 2, none⟩ (.bool b)) p B ps (sFl s i b) ∧ Wrote K w K (w.setCell ⟨B, i * 3 + 2, none⟩ (.bool b)) := by
  obtain ⟨k1, m1⟩ := h.m.seta (j := i * 3 + 2) (by omega) (.bool b)
  have hoff : Off G M := fun k g1 g2 => h.off k g2 g1
  refine ⟨⟨_, fv, ev, ad, M, G, ⟨m1, h.b.wrote k1 hoff, fun l hl => by rw [up_ne _ _ (by omega)]; exact h.one l hl, fun l hl => by rw [up_ne _ _ (by omega)]; exact h.two l hl, fun l hl => ?_, h.off, h.km, h.kg, fun k hk => h.kn k (Nat.le_trans k1.size hk)⟩⟩, wrote_big k1 h.km⟩
  show _ = Value.bool (up s.fl i b l)
  by_cases e : l = i
  · subst e; rw [up_same, up_same]
  · rw [up_ne _ _ (by omega), up_ne _ _ e]; exact h.flg l hl
set_option maxRecDepth 100000 in
theorem reset_any (h : Is K w p B ps s) (hi : i < ps) (hps : ps ≤ 64) : Calls Try.prog 58 #[.pointer (some ⟨p, 0, none⟩), .int .i64 i] w (Did (.tuple #[]) K w p B ps (sFl s i false)) := by
  obtain ⟨a, fv, ev, ad, M, G, h⟩ := h
  have co := of_in i hi hps h.m
  have d3 := h.c3 hi
  have f3 := h.m.fa (i * 3 + 2)
  have hfin := Lib.hid (h.flag hi false)
  clear h
  go_enter Try.func58, Try.ntmps58
  go_wp2_with fail
  with_reducible refine Calls.mono (co) ?_
  rintro e w' ⟨rfl, rfl⟩
  go_wp2_with fail
  go_end0
  exact ⟨rfl, hfin.out⟩
end Po
end Go.Proofs.Ytclldajbibhcbaa
