/- Get and Give of a pool. -/
import Derived.Test.YtclldajbibhcbaaPoolCalls
namespace Go.Proofs.Ytclldajbibhcbaa
open Go.RowKit Go.Lib Fx Ho Qu Bu Gr
set_option linter.unusedVariables false
namespace Po
variable {w w' W W0 : World} {p B ps nf ne nf' ne' : Nat} {ad : Nat → Nat → Nat} {c c' : Nat → Nat → List Int} {G M H H' K M' : Home} {a : Nat → Value} {fv ev v : Value} {xf xe xs : List Value} {s : St} {n i : Nat}
/-- The last one of the full ones has taken the place of a P's first one, which was empty. -/
theorem At.taken {m : Nat} {v' ev' : Value} (h : At K w p B ps a fv ev ad s M G) (hi : i < ps) (hm : s.F.length = m + 1) (ho : s.o i = []) (hw : Wrote M w M' W)
    (hmem : Mem W p B ps (up a (i * 3) (ptr (ad 2 m))) v' ev' m (s.e + 1) (ptrs (ad 2) m) (ptrs (ad 3) s.e ++ [ptr (ad 0 i)]) M') (hb : Bufs W ps (m + 1) s.e ad (cont s.o s.t s.F) G) (hoff : Off M' G) : Is K W p B ps (sTake s i) ∧ Wrote K w K W := by
  have hKM : ∀ k, M' k → K k := fun k hk => (hw.home k hk).elim (h.km k) (h.kn k)
  refine ⟨?_, ⟨hw.os, hw.tape, hw.output, hw.size, fun k hk hn => hw.block k hk (fun e => hn (h.km k e)), fun k hk => Or.inl hk⟩⟩
  refine ⟨up a (i * 3) (ptr (ad 2 m)), v', ev', fun k l => if k = 0 ∧ l = i then ad 2 m else if k = 3 ∧ l = s.e then ad 0 i else ad k l, M', G, ?_⟩
  have hF : (sTake s i).F.length = m := by simp [sTake, hm]
  have hE : (sTake s i).e = s.e + 1 := rfl
  refine ⟨?_, ?_, ?_, ?_, ?_, hoff, hKM, h.kg, fun k hk => h.kn k (Nat.le_trans hw.size hk)⟩
  · rw [hF, hE]
    have e2 : ptrs (fun l => if 2 = 0 ∧ l = i then ad 2 m else if 2 = 3 ∧ l = s.e then ad 0 i else ad 2 l) m = ptrs (ad 2) m := ptrs_congr (fun l hl => by simp)
    have e3 : ptrs (fun l => if 3 = 0 ∧ l = i then ad 2 m else if 3 = 3 ∧ l = s.e then ad 0 i else ad 3 l) (s.e + 1) = ptrs (ad 3) s.e ++ [ptr (ad 0 i)] := by
      rw [ptrs_snoc]
      congr 1
      · exact ptrs_congr (fun l hl => by rw [if_neg (by omega), if_neg (by omega)])
      · rw [if_neg (by omega), if_pos ⟨rfl, rfl⟩]
    show Mem W p B ps _ v' ev' m (s.e + 1) (ptrs (fun l => if 2 = 0 ∧ l = i then ad 2 m else if 2 = 3 ∧ l = s.e then ad 0 i else ad 2 l) m) (ptrs (fun l => if 3 = 0 ∧ l = i then ad 2 m else if 3 = 3 ∧ l = s.e then ad 0 i else ad 3 l) (s.e + 1)) M'
    rw [e2, e3]; exact hmem
  · rw [hF, hE]
    refine hb.move (fun k l => if k = 0 ∧ l = i then 2 else if k = 3 ∧ l = s.e then 0 else k) (fun k l => if k = 0 ∧ l = i then m else if k = 3 ∧ l = s.e then i else l) ?_ ?_ ?_ ?_
    · intro k l hs
      unfold Slot at *
      try dsimp only
      by_cases e1 : k = 0 ∧ l = i
      · rw [if_pos e1, if_pos e1]; omega
      · rw [if_neg e1, if_neg e1]
        by_cases e2 : k = 3 ∧ l = s.e
        · rw [if_pos e2, if_pos e2]; omega
        · rw [if_neg e2, if_neg e2]; omega
    · intro k l k' l' h1 h2 f1 f2
      unfold Slot at *
      try dsimp only at *
      by_cases e1 : k = 0 ∧ l = i <;> by_cases g1 : k' = 0 ∧ l' = i
      · omega
      · rw [if_pos e1, if_neg g1] at f1 f2
        by_cases g2 : k' = 3 ∧ l' = s.e
        · rw [if_pos g2] at f1 f2; omega
        · rw [if_neg g2] at f1 f2; omega
      · rw [if_neg e1, if_pos g1] at f1 f2
        by_cases e2 : k = 3 ∧ l = s.e
        · rw [if_pos e2] at f1 f2; omega
        · rw [if_neg e2] at f1 f2; omega
      · rw [if_neg e1, if_neg g1] at f1 f2
        by_cases e2 : k = 3 ∧ l = s.e <;> by_cases g2 : k' = 3 ∧ l' = s.e
        · omega
        · rw [if_pos e2, if_neg g2] at f1 f2; exact absurd ⟨f1.symm, f2.symm⟩ g1
        · rw [if_neg e2, if_pos g2] at f1 f2; exact absurd ⟨f1, f2⟩ e1
        · rw [if_neg e2, if_neg g2] at f1 f2; exact ⟨f1, f2⟩
    · intro k l hs
      by_cases e1 : k = 0 ∧ l = i
      · simp only [if_pos e1]
      · simp only [if_neg e1]
        by_cases e2 : k = 3 ∧ l = s.e
        · simp only [if_pos e2]
        · simp only [if_neg e2]
    · intro k l hs
      by_cases e1 : k = 0 ∧ l = i
      · rw [if_pos e1, if_pos e1]
        obtain ⟨rfl, rfl⟩ := e1
        simp [cont, sTake, up_same, hm]
      · rw [if_neg e1, if_neg e1]
        by_cases e2 : k = 3 ∧ l = s.e
        · rw [if_pos e2, if_pos e2]
          obtain ⟨rfl, rfl⟩ := e2
          simp [cont, ho]
        · rw [if_neg e2, if_neg e2]
          rcases Nat.lt_or_ge k 4 with hk4 | hk4
          · rcases (show k = 0 ∨ k = 1 ∨ k = 2 ∨ k = 3 by omega) with rfl | rfl | rfl | rfl
            · simp [cont, sTake, up_ne _ _ (fun e => e1 ⟨rfl, e⟩)]
            · simp [cont, sTake]
            · have hl : l < m := by unfold Slot at hs; omega
              simp [cont, sTake, hm, List.getElem?_take_of_lt hl]
            · simp [cont]
          · unfold Slot at hs; omega
  · intro l hl
    by_cases e : l = i
    · subst e; rw [up_same, if_pos ⟨rfl, rfl⟩]
    · rw [up_ne _ _ (by omega), if_neg (by omega), if_neg (by omega)]; exact h.one l hl
  · intro l hl
    rw [up_ne _ _ (by omega), if_neg (by omega), if_neg (by omega)]; exact h.two l hl
  · intro l hl
    rw [up_ne _ _ (by omega)]; exact h.flg l hl
/-- Half of a P's first one has gone into a new one, which stands among the full ones. -/
theorem At.halved {x k0 : Nat} {v' : Value} {ad2 : Nat → Nat → Nat} {G2 : Home} {c2 : Nat → Nat → List Int} (h : At K w p B ps a fv ev ad s M G) (hi : i < ps) (hw : ∀ k, k < w.heap.size → ¬ K k → W.heap[k]? = w.heap[k]?) (ho1 : W.os = w.os) (ho2 : W.tape = w.tape) (ho3 : W.output = w.output) (hsz : w.heap.size ≤ W.heap.size)
    (hmem : Mem W p B ps (up a (i * 3 + 2) (.bool true)) v' ev (s.F.length + 1) s.e (ptrs (ad 2) s.F.length ++ [ptr x]) (ptrs (ad 3) s.e) M') (hb : Bufs W ps s.F.length (s.e + 1) ad2 c2 G2) (hx : ad2 3 s.e = x) (hold : ∀ k l, Slot ps s.F.length s.e k l → ad2 k l = ad k l ∧ c2 k l = if k = 0 ∧ l = i then (s.o i).take k0 else cont s.o s.t s.F k l) (hc3 : c2 3 s.e = (s.o i).drop k0) (hoff : Off M' G2) (hG : ∀ k, G2 k → K k) (hM : ∀ k, M' k → K k) : Is K W p B ps (sHalf s i k0) ∧ Wrote K w K W := by
  refine ⟨?_, ⟨ho1, ho2, ho3, hsz, hw, fun k hk => Or.inl hk⟩⟩
  refine ⟨up a (i * 3 + 2) (.bool true), v', ev, fun k l => if k = 2 ∧ l = s.F.length then x else ad k l, M', G2, ?_⟩
  have hF : (sHalf s i k0).F.length = s.F.length + 1 := by simp [sHalf]
  have hE : (sHalf s i k0).e = s.e := rfl
  have ha2 : ∀ k l, Slot ps (s.F.length + 1) s.e k l → ¬ (k = 2 ∧ l = s.F.length) → Slot ps s.F.length s.e k l := fun k l h1 h2 => by unfold Slot at *; omega
  refine ⟨?_, ?_, ?_, ?_, ?_, hoff, hM, hG, fun k hk => h.kn k (Nat.le_trans hsz hk)⟩
  · rw [hF, hE]
    have e2 : ptrs (fun l => if 2 = 2 ∧ l = s.F.length then x else ad 2 l) (s.F.length + 1) = ptrs (ad 2) s.F.length ++ [ptr x] := by
      rw [ptrs_snoc]
      congr 1
      · exact ptrs_congr (fun l hl => by rw [if_neg (by omega)])
      · rw [if_pos ⟨rfl, rfl⟩]
    have e3 : ptrs (fun l => if 3 = 2 ∧ l = s.F.length then x else ad 3 l) s.e = ptrs (ad 3) s.e := ptrs_congr (fun l hl => by rw [if_neg (by omega)])
    show Mem W p B ps _ v' ev (s.F.length + 1) s.e (ptrs (fun l => if 2 = 2 ∧ l = s.F.length then x else ad 2 l) (s.F.length + 1)) (ptrs (fun l => if 3 = 2 ∧ l = s.F.length then x else ad 3 l) s.e) M'
    rw [e2, e3]; exact hmem
  · rw [hF, hE]
    refine hb.move (fun k l => if k = 2 ∧ l = s.F.length then 3 else k) (fun k l => if k = 2 ∧ l = s.F.length then s.e else l) ?_ ?_ ?_ ?_
    · intro k l hs
      unfold Slot at *
      try dsimp only
      by_cases e2 : k = 2 ∧ l = s.F.length
      · rw [if_pos e2, if_pos e2]; omega
      · rw [if_neg e2, if_neg e2]; omega
    · intro k l k' l' h1 h2 f1 f2
      unfold Slot at *
      try dsimp only at *
      by_cases e2 : k = 2 ∧ l = s.F.length <;> by_cases g2 : k' = 2 ∧ l' = s.F.length
      · omega
      · rw [if_pos e2, if_neg g2] at f1 f2; omega
      · rw [if_neg e2, if_pos g2] at f1 f2; omega
      · rw [if_neg e2, if_neg g2] at f1 f2; exact ⟨f1, f2⟩
    · intro k l hs
      by_cases e2 : k = 2 ∧ l = s.F.length
      · simp only [if_pos e2]; exact hx.symm
      · simp only [if_neg e2]; exact (hold k l (ha2 k l hs e2)).1.symm
    · intro k l hs
      by_cases e2 : k = 2 ∧ l = s.F.length
      · rw [if_pos e2, if_pos e2, hc3]
        obtain ⟨rfl, rfl⟩ := e2
        simp [cont, sHalf]
      · rw [if_neg e2, if_neg e2, (hold k l (ha2 k l hs e2)).2]
        rcases Nat.lt_or_ge k 4 with hk4 | hk4
        · rcases (show k = 0 ∨ k = 1 ∨ k = 2 ∨ k = 3 by omega) with rfl | rfl | rfl | rfl
          · by_cases e : l = i
            · subst e; simp [cont, sHalf, up_same]
            · simp [cont, sHalf, up_ne _ _ e, e]
          · simp [cont, sHalf]
          · have hl : l < s.F.length := by unfold Slot at hs; omega
            simp [cont, sHalf, List.getElem?_append_left hl]
          · simp [cont]
        · unfold Slot at hs; omega
  · intro l hl
    rw [up_ne _ _ (by omega), if_neg (by omega)]; exact h.one l hl
  · intro l hl
    rw [up_ne _ _ (by omega), if_neg (by omega)]; exact h.two l hl
  · intro l hl
    have hfl : (sHalf s i k0).fl = up s.fl i true := rfl
    rw [hfl]
    by_cases e : l = i
    · subst e; rw [up_same, up_same]
    · rw [up_ne _ _ (by omega), up_ne _ _ e]; exact h.flg l hl
theorem up_self {α : Type} (f : Nat → α) (i : Nat) : up f i (f i) = f := by
  funext j
  by_cases e : j = i
  · subst e; exact up_same _ _ _
  · exact up_ne _ _ e
theorem set_self (s : St) (i : Nat) : sSet s i (s.o i) = s := by unfold sSet; rw [up_self]
theorem bget_any (h : At K w p B ps a fv ev ad s M G) (hi : i < ps) : Calls Try.prog 69 #[.pointer (some ⟨ad 0 i, 0, none⟩)] w fun e w' => e = .returned (.tuple #[.int .i64 (sGot s i).1, .bool (sGot s i).2]) ∧ Is K w' p B ps (sGet3 s i) ∧ Wrote K w K w' := by
  unfold sGot sGet3
  by_cases h0 : (s.o i).length = 0
  · rw [if_pos h0]
    have e := List.eq_nil_of_length_eq_zero h0
    have hb := h.b0 hi
    rw [e] at hb
    refine (Bu.get_none hb).mono fun _ _ ⟨he, hw⟩ => ?_
    subst hw
    have e2 : (s.o i).take ((s.o i).length - 1) = s.o i := by rw [e]; rfl
    rw [e2, set_self]
    exact ⟨he, ⟨_, _, _, _, _, _, h⟩, Wrote.refl _ _⟩
  · rw [if_neg h0]
    exact (Bu.get_some (n := (s.o i).length - 1) (by omega) (h.b0 hi)).mono fun _ _ ⟨he, ht, hb⟩ => ⟨he, h.set hi ht hb⟩
set_option maxRecDepth 100000 in
set_option maxHeartbeats 1000000 in
theorem get_any (h : Is K w p B ps s) (hi : i < ps) (hps : ps ≤ 64) (hF : s.F.length ≤ 90000) (hE : s.e ≤ 90000) : Calls Try.prog 59 #[.pointer (some ⟨p, 0, none⟩), .int .i64 i] w (Did (.tuple #[.int .i64 (sAns s i).1, .bool (sAns s i).2]) K w p B ps (sGet s i)) := by
  obtain ⟨a, fv, ev, ad, M, G, h⟩ := h
  have co := of_in i hi hps h.m
  have d1 := h.c1 hi
  have d2 := h.c2 hi
  have cl := Bu.len_any (h.b0 hi)
  unfold sGet sAns
  by_cases h1 : (s.o i).length = 0
  · have ct := turn_any d1 d2 (h.m.fa _) (h.m.fa _)
    have e1 : sGet1 s i = sTurn s i := by unfold sGet1; rw [if_pos h1]
    have hT : Hid (∀ w2 : World, w2.heap = ((w.setCell ⟨B, i * 3, none⟩ (ptr (ad 1 i))).setCell ⟨B, i * 3 + 1, none⟩ (ptr (ad 0 i))).heap → w2.os = w.os → w2.tape = w.tape → w2.output = w.output → Is K w2 p B ps (sTurn s i) ∧ Wrote K w K w2) := Lib.hid fun w2 g1 g2 g3 g4 => h.turn hi g1 g2 g3 g4
    have hF2 : (sTurn s i).F.length ≤ 90000 := hF
    have hE2 : (sTurn s i).e ≤ 90000 := hE
    rw [h1] at cl
    rw [e1]
    clear e1 h hF hE h1
    generalize sTurn s i = S at *
    unfold ptr at *
    go_enter Try.func59, Try.ntmps59
    go_wp2_with fail
    with_reducible refine Calls.mono (co) ?_
    rintro e w' ⟨rfl, rfl⟩
    go_wp2_with fail
    with_reducible refine Calls.mono (cl) ?_
    rintro e w' ⟨rfl, rfl⟩
    go_wp2_with fail
    with_reducible refine Calls.mono (ct) ?_
    rintro e w2 ⟨rfl, g1, g2, g3, g4⟩
    obtain ⟨hS, hwr⟩ := hT.out w2 g1 g2 g3 g4
    clear g1 g2 g3 g4 hT d1 d2 cl co ct
    replace hwr := Lib.hid hwr
    obtain ⟨a2, fv2, ev2, ad2, M2, G2, h⟩ := hS
    have d1 := h.c1 hi
    have cl := Bu.len_any (h.b0 hi)
    by_cases h1 : (S.o i).length = 0 ∧ 0 < S.F.length
    · obtain ⟨m, hm⟩ : ∃ m, S.F.length = m + 1 := ⟨S.F.length - 1, by omega⟩
      have e2 : Hid (sGet2 S i = sTake S i) := Lib.hid (by unfold sGet2; rw [if_pos h1])
      have c1 := h.m.c1
      obtain ⟨sf, cf, ef⟩ := h.m.full.slice
      rw [hm] at ef
      rw [ef] at c1
      have ho0 : S.o i = [] := List.eq_nil_of_length_eq_zero h1.1
      have m0 : (0 : Int) < (m : Int) + 1 := by omega
      have hoff : Off G2 M2 := fun k g1 g2 => h.off k g2 g1
      have hP : Hid (∀ V, Below w2.heap.size w2 V → Calls Try.prog 119 #[.pointer (some ⟨p, 2, none⟩), .pointer (some ⟨ad2 0 i, 0, none⟩)] V fun e w3 => e = .returned (.tuple #[]) ∧ w3.cell? ⟨B, i * 3, none⟩ = some (.pointer (some ⟨ad2 0 i, 0, none⟩)) ∧ Hid (Calls Try.prog 120 #[.pointer (some ⟨p, 1, none⟩)] w3 fun e w4 => ∃ x, e = .returned (.pointer (some ⟨x, 0, none⟩)) ∧ w4.cell? ⟨B, i * 3, none⟩ = some (.pointer (some ⟨ad2 0 i, 0, none⟩)) ∧ w4.frozen? ⟨B, i * 3, none⟩ = false ∧ Hid (∀ W, W = w4.setCell ⟨B, i * 3, none⟩ (.pointer (some ⟨x, 0, none⟩)) → ∃ y, W.cell? ⟨B, i * 3, none⟩ = some (.pointer (some ⟨y, 0, none⟩)) ∧ Calls Try.prog 69 #[.pointer (some ⟨y, 0, none⟩)] W fun e w' => e = .returned (.tuple #[.int .i64 (sGot (sTake S i) i).1, .bool (sGot (sTake S i) i).2]) ∧ Is K w' p B ps (sGet3 (sTake S i) i) ∧ Wrote K w K w'))) := Lib.hid fun V hb => by
        have hV := h.m.below hb
        have bV := h.b.wrote (H := fun _ => False) (Wrote.of_below hb) (fun _ _ h => h)
        refine (push_any (p := p) (j := 2) (x := ad2 0 i) hV.c2 (hV.fz 2) hV.empt hV.ep (by omega)).mono fun e w3 ⟨he, v', w1, hg, hw1, e3⟩ => ?_
        subst e3
        obtain ⟨k1, m1⟩ := hV.sete hw1 hg
        have o1 := k1.off hoff bV.lt
        have b1 := bV.wrote k1 hoff
        refine ⟨he, by rw [m1.ca (by omega), h.one i hi], Lib.hid ?_⟩
        have hcl := m1.full.cell
        rw [hm] at hcl
        obtain ⟨ao, b, off, cap, ee, hle, hmx, hab, hcell⟩ := hcl
        obtain ⟨rfl, hbl, hob⟩ := hab (by omega)
        obtain ⟨g1, g2⟩ := hcell m (ptr (ad2 2 m)) (ptrs_get (by omega))
        have hne : b ≠ p := fun e => m1.fp (by rw [hob, e])
        have c2 := m1.c1
        rw [ee] at c2
        refine (pop_any (x := ad2 2 m) c2 (m1.fz 1) g1 g2 hne (by omega) (by omega)).mono fun e w4 ⟨h1, h2⟩ => ⟨ad2 2 m, h1, ?_⟩
        subst h2
        have m1' := m1
        rw [hm] at m1'
        obtain ⟨k3, m3⟩ := m1'.popf ee (.pointer none)
        rw [ptrs_take] at m3
        refine ⟨by rw [m3.ca (by omega), h.one i hi], m3.fa _, Lib.hid fun W eW => ?_⟩
        subst eW
        obtain ⟨k4, m4⟩ := m3.seta (j := i * 3) (by omega) (ptr (ad2 2 m))
        have o3 := k3.off o1 b1.lt
        have b4 := (b1.wrote k3 o1).wrote k4 o3
        have b5 := b4
        rw [hm] at b5
        obtain ⟨hI, hwt⟩ := h.taken hi hm ho0 ((Wrote.of_below hb).trans (k1.trans (k3.trans k4))) m4 b5 (fun k g1 g2 => o3 k g2 g1)
        obtain ⟨a3, fv3, ev3, ad3, M3, G3, h3⟩ := hI
        exact ⟨ad3 0 i, h3.c1 hi, (bget_any h3 hi).mono fun e w' ⟨he, h4, h5⟩ => ⟨he, h4, hwr.out.trans (hwt.trans h5)⟩⟩
      rw [h1.1] at cl
      have hbd : Below w2.heap.size w2 w2.drew := (Below.refl _ _).drew
      clear h hF2 hE2 h1 hm ef ho0 hoff hwr
      generalize hR : sGot (sTake S i) i = R at *
      unfold ptr at *
      go_wp2_with fail
      with_reducible refine Calls.mono (cl) ?_
      rintro e w' ⟨rfl, rfl⟩
      go_wp2_with fail
      go_region_held3 (fun W' => W'.cell? ⟨B, i * 3, none⟩ = some (.pointer (some ⟨ad2 0 i, 0, none⟩))) (first | exact d1 | go_keep | assumption | exact cell_then (by assumption) (by assumption)) (first | (go_at_call 119; ((with_reducible refine (hP.out _ (by repeat (first | assumption | exact Below.refl _ _ | refine below_drewN ?_ _ | refine below_alloc ?_ _ | refine below_then ?_ (by assumption)))).mono ?_); rintro e w3 ⟨rfl, f0, hq⟩)))
      all_goals
        clear hP cl
        go_wp2_with fail
        with_reducible refine Calls.mono (hq.out) ?_
        rintro e w4 ⟨x, rfl, f1, f2, f3⟩
        obtain ⟨y, f4, cb⟩ := f3.out _ rfl
        clear f3 hq
        go_wp2_with fail
        with_reducible refine Calls.mono (cb) ?_
        rintro e w5 ⟨rfl, k1, k2⟩
        rw [← e2.out] at k1 hR
        have hfin := Lib.hid (And.intro k1 k2)
        replace hR := Lib.hid hR
        clear k1 k2 cb f1 f2 f4 e2 f0
        go_wp2_with fail
        go_ret2
        exact ⟨by rw [hR.out]; rfl, hfin.out⟩
    · have e2 : Hid (sGet2 S i = S) := Lib.hid (by unfold sGet2; rw [if_neg h1])
      have cb := bget_any h hi
      by_cases h2 : (S.o i).length = 0
      · have hz : S.F.length = 0 := by omega
        have c1 := h.m.c1
        obtain ⟨sf, cf, ef⟩ := h.m.full.slice
        rw [hz] at ef
        rw [ef] at c1
        rw [h2] at cl
        clear h hF2 hE2 h1 h2 hz ef
        generalize hR : sGot S i = R at *
        unfold ptr at *
        go_wp2_with fail
        with_reducible refine Calls.mono (cl) ?_
        rintro e w' ⟨rfl, rfl⟩
        go_wp2_with fail
        with_reducible refine Calls.mono (cb) ?_
        rintro e w5 ⟨rfl, k1, k2⟩
        have k3 : Is K w5 p B ps (sGet3 (sGet2 S i) i) := by rw [e2.out]; exact k1
        have hR2 : Hid (sGot (sGet2 S i) i = R) := Lib.hid (by rw [e2.out]; exact hR)
        have hfin := Lib.hid (And.intro k3 (hwr.out.trans k2))
        clear k1 k2 k3 cb cl d1 c1 e2 hR
        go_wp2_with fail
        go_ret2
        exact ⟨by rw [hR2.out]; rfl, hfin.out⟩
      · have hne : (((S.o i).length : Int) == 0) = false := by rw [beq_eq_false_iff_ne]; omega
        clear h hF2 hE2 h1 h2
        generalize (S.o i).length = l at *
        generalize hR : sGot S i = R at *
        unfold ptr at *
        go_wp2_with fail
        with_reducible refine Calls.mono (cl) ?_
        rintro e w' ⟨rfl, rfl⟩
        go_wp2_with fail
        with_reducible refine Calls.mono (cb) ?_
        rintro e w5 ⟨rfl, k1, k2⟩
        have k3 : Is K w5 p B ps (sGet3 (sGet2 S i) i) := by rw [e2.out]; exact k1
        have hR2 : Hid (sGot (sGet2 S i) i = R) := Lib.hid (by rw [e2.out]; exact hR)
        have hfin := Lib.hid (And.intro k3 (hwr.out.trans k2))
        clear k1 k2 k3 cb cl d1 e2 hR
        go_wp2_with fail
        go_ret2
        exact ⟨by rw [hR2.out]; rfl, hfin.out⟩
  · have e1 : sGet1 s i = s := by unfold sGet1; rw [if_neg h1]
    have e2 : sGet2 s i = s := by unfold sGet2; rw [if_neg (fun h => h1 h.1)]
    have cb := bget_any h hi
    have hne : (((s.o i).length : Int) == 0) = false := by rw [beq_eq_false_iff_ne]; omega
    rw [e1, e2]
    clear h hF hE h1 e1 e2 d2
    generalize (s.o i).length = l at *
    generalize sGot s i = R at *
    unfold ptr at *
    go_enter Try.func59, Try.ntmps59
    go_wp2_with fail
    with_reducible refine Calls.mono (co) ?_
    rintro e w' ⟨rfl, rfl⟩
    go_wp2_with fail
    with_reducible refine Calls.mono (cl) ?_
    rintro e w' ⟨rfl, rfl⟩
    go_wp2_with fail
    with_reducible refine Calls.mono (cl) ?_
    rintro e w' ⟨rfl, rfl⟩
    go_wp2_with fail
    with_reducible refine Calls.mono (cb) ?_
    rintro e w5 ⟨rfl, k1, k2⟩
    have hfin := Lib.hid (And.intro k1 k2)
    clear k1 k2 cb cl d1 co
    go_wp2_with fail
    go_ret2
    exact ⟨rfl, hfin.out⟩
end Po
end Go.Proofs.Ytclldajbibhcbaa
