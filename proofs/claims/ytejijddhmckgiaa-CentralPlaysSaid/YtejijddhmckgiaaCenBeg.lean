/- Spans in common: what Begin makes. -/
import Derived.Test.YtejijddhmckgiaaCenPut2
import Derived.Test.YtejijddhmckgiaaCenAny
import Derived.Deep.LoopGhost
namespace Go.Proofs.Ytejijddhmckgiaa
open Go.RowKit Go.Lib Fx Ho Rw Mp
set_option linter.unusedVariables false
namespace Ce
variable {w w' W : World} {p R z n r N o k a b oa ob : Nat} {Q Q0 : Rows} {sp : Int → Nat} {H H' : Home} {x y i : Int} {P S : List Int}
theorem mpv_move (h : IsRows w R Q sp) (ha : a < 64) (hb : b < 64) (e : Q a = x :: S) : up (mpv Q sp) x (.pointer (some ⟨N, 0, none⟩)) = mpv (upd (upd Q a S) b (upd Q a S b ++ [x])) (updI sp x N) := by
  have hno : ∀ s, s < 64 → x ∉ upd Q a S s := fun s hs hm => by
    have hnd := h.nd a ha
    rw [e] at hnd
    by_cases hsa : s = a
    · subst hsa; rw [upd_same] at hm; exact (List.nodup_cons.1 hnd).1 hm
    · rw [upd_ne _ _ hsa] at hm; exact hsa (h.one s a x hs ha hm (by rw [e]; simp))
  have e1 := mpv_del (P := []) h ha e
  have e2 := mpv_put (sp := sp) (N := N) hb hno
  rw [← e2]
  show _ = up (mpv (upd Q a S) sp) x _
  rw [show mpv (upd Q a S) sp = mpv (upd Q a ([] ++ S)) sp from rfl, ← e1]
  funext j
  by_cases hj : j = x
  · subst hj; rw [up_same, up_same]
  · rw [up_ne _ _ hj, up_ne _ _ hj, up_ne _ _ hj]
theorem move_mid (h : IsC w p R z n Q sp) (ha : a < 64) (hb : b < 64) (hab : a ≠ b) (e : Q a = x :: S) (hoa : oa = a * 3) (hob : ob = b * 3) (hn : n ≤ 1000000) :
    Calls Try.prog 64 #[.pointer (some ⟨R, oa, none⟩), .pointer (some ⟨sp x, 0, none⟩)] w fun e1 w1 => e1 = .returned (.tuple #[]) ∧ (w1.cell? ⟨p, 1, none⟩ = some (.map (some z)) ∧ w1.cell? ⟨sp x, 0, none⟩ = some (.int .i64 x)) ∧ Hid (∀ W, W.heap = w1.heap → W.os = w1.os → W.tape = w1.tape → W.output = w1.output →
      Calls Try.prog 63 #[.pointer (some ⟨R, ob, none⟩), .int .i64 x] W fun e w5 => ∃ N, e = .returned (.pointer (some ⟨N, 0, none⟩)) ∧ w5.cell? ⟨p, 1, none⟩ = some (.map (some z)) ∧ w5.cell? ⟨sp x, 0, none⟩ = some (.int .i64 x) ∧ Hid (IMap RP (.pointer none) w5 z n (mpv Q sp)) ∧ Hid (∀ w6, IMap RP (.pointer none) w6 z (n + 1) (up (mpv Q sp) x (.pointer (some ⟨N, 0, none⟩))) → Wrote (fun k => k = z) w5 (fun k => k = z) w6 → ∃ sp', Wrote (CH p R z Q sp) w (CH p R z (upd (upd Q a S) b (upd Q a S b ++ [x])) sp') w6 ∧ IsC w6 p R z (n + 1) (upd (upd Q a S) b (upd Q a S b ++ [x])) sp')) := by
  have hxm : x ∈ Q a := by rw [e]; simp
  have hx := h.wf a x ha hxm
  refine (rdel_any (P := []) h.rows ha hoa e (Nat.le_trans (h.small a) hn)).mono fun e1 w1 ⟨he, hw1, hr1, hk1⟩ => ?_
  have hr1' : IsRows w1 R (upd Q a S) sp := hr1
  have hw1' : Wrote (RH R Q sp) w (RH R (upd Q a S) sp) w1 := hw1
  have hsub : ∀ k, RH R (upd Q a S) sp k → RH R Q sp k := rh_del (P := []) ha e
  have hp1 : ¬ RH R Q sp p := off_rh h.pR h.sp_p
  have hz1 : ¬ RH R Q sp z := off_rh h.Rz.symm h.sp_z
  have hno : ∀ s, s < 64 → x ∉ upd Q a S s := fun s hs hm => by
    have hnd := h.rows.nd a ha
    rw [e] at hnd
    by_cases hsa : s = a
    · subst hsa; rw [upd_same] at hm; exact (List.nodup_cons.1 hnd).1 hm
    · rw [upd_ne _ _ hsa] at hm; exact hsa (h.rows.one s a x hs ha hm hxm)
  have hxs : ¬ RH R (upd Q a S) sp (sp x) := fun hk => by
    rcases hk with e2 | ⟨s, y, hs, hy, e2⟩
    · exact h.rows.off a x ha hxm e2
    · have hy2 : y ∈ Q s := upd_sub (P := []) e hy
      have := h.rows.inj s a y x hs ha hy2 hxm e2
      subst this
      exact hno s hs hy
  have hx0 : w1.heap[sp x]? = some (.cells (spotA x R a none (S.head?.map sp)) 114 (0, 0)) := hk1.trans (h.rows.spot a ha [] x S e)
  refine ⟨he, ⟨hw1.cell h.c1 hp1, cell_of hx0 rfl⟩, Lib.hid fun W hh h1 h2 h3 => (rput_any (hr1'.of_heap hh) hb hob hno ?_).mono fun e5 w5 ⟨N, he, hN, hw5, hrow⟩ => ?_⟩
  · by_cases hba : b = a
    · exact absurd hba.symm hab
    · rw [upd_ne _ _ hba]; exact Nat.le_trans (h.small b) hn
  · have hw : Wrote (RH R (upd Q a S) sp) w1 (RH R (upd (upd Q a S) b (upd Q a S b ++ [x])) (updI sp x N)) w5 := (wrote_heap hh h1 h2 h3).trans hw5
    have hN1 : w1.heap.size ≤ N := by rw [hh] at hN; exact hN
    have hww := hw1'.trans hw
    have hzlt := h.map.lt
    have hplt := h.plt
    have hs1 := hw1'.size
    refine ⟨N, he, hww.cell h.c1 hp1, hw.cell (cell_of hx0 rfl) hxs, Lib.hid (h.map.wrote hww hz1), Lib.hid fun w6 hm6 hw6 => ⟨updI sp x N, ?_, ?_⟩⟩
    · refine ⟨hw6.os.trans hww.os, hw6.tape.trans hww.tape, hw6.output.trans hww.output, Nat.le_trans hww.size hw6.size, fun k hk ho => ?_, fun k hk => ?_⟩
      · exact (hw6.block k (Nat.lt_of_lt_of_le hk hww.size) (fun e => ho (.inr (.inl e)))).trans (hww.block k hk (fun e => ho (.inr (.inr e))))
      · rcases hk with e | e | e
        · exact .inl (.inl e)
        · exact .inl (.inr (.inl e))
        · exact (hww.home k e).imp (fun h => .inr (.inr h)) id
    · have hin : ∀ s y, s < 64 → y ∈ upd (upd Q a S) b (upd Q a S b ++ [x]) s → y = x ∨ y ∈ Q s := fun s y hs hy => by
        by_cases hsr : s = b
        · subst hsr; rw [upd_same] at hy
          rcases List.mem_append.1 hy with h | h
          · exact .inr (upd_sub (P := []) e h)
          · exact .inl (by simpa using h)
        · rw [upd_ne _ _ hsr] at hy; exact .inr (upd_sub (P := []) e hy)
      refine ⟨?_, ?_, ?_, h.pR, h.pz, h.Rz, ?_, ?_, ?_, ?_, ?_⟩
      · exact (hw6.block p (Nat.lt_of_lt_of_le hplt hww.size) h.pz).trans ((hww.block p hplt hp1).trans h.head)
      · refine hrow.wrote hw6 (fun k hk e => ?_)
        have e : k = z := e
        subst e
        rcases hww.home k hk with h1 | h1
        · exact hz1 h1
        · omega
      · rw [← mpv_move h.rows ha hb e]; exact hm6
      · intro s y hs hy
        by_cases e : y = x
        · subst e; rw [updI_same]; omega
        · rw [updI_ne _ _ e]; exact h.sp_p s y hs ((hin s y hs hy).resolve_left e)
      · intro s y hs hy
        by_cases e : y = x
        · subst e; rw [updI_same]; omega
        · rw [updI_ne _ _ e]; exact h.sp_z s y hs ((hin s y hs hy).resolve_left e)
      · intro s y hs hy
        by_cases e : y = x
        · subst e; exact hx
        · exact h.wf s y hs ((hin s y hs hy).resolve_left e)
      · intro s hs
        rw [upd_ne _ _ (by omega), upd_ne _ _ (by omega)]; exact h.out s hs
      · intro s
        have hsa : ∀ s, (upd Q a S s).length ≤ n := fun s => by
          by_cases hs : s = a
          · subst hs; rw [upd_same]; have := h.small s; rw [e] at this; simp at this; omega
          · rw [upd_ne _ _ hs]; exact h.small s
        by_cases hsr : s = b
        · subst hsr; rw [upd_same, List.length_append]; have := hsa s; simp; omega
        · rw [upd_ne _ _ hsr]; have := hsa s; omega
def begT (Q : Rows) (t : Nat) : Rows := fun s => if s < 64 ∧ s / 4 * 2 + s % 2 < t then (if s % 4 < 2 then [] else Q s ++ Q (s - 2)) else Q s
def begQ (Q : Rows) : Rows := begT Q 32
def msum (Q : Rows) : Nat → Nat
  | 0 => 0
  | t + 1 => msum Q t + (Q (srow t)).length
theorem msum_mono (Q : Rows) : ∀ {t u : Nat}, t ≤ u → msum Q t ≤ msum Q u
  | t, 0, h => by obtain rfl : t = 0 := by omega
                  exact Nat.le_refl _
  | t, u + 1, h => by
    by_cases e : t = u + 1
    · subst e; exact Nat.le_refl _
    · have := msum_mono Q (t := t) (u := u) (by omega)
      show _ ≤ msum Q u + _
      omega
def midQ (Q0 : Rows) (a b i : Nat) : Rows := upd (upd Q0 a ((Q0 a).drop i)) b (Q0 b ++ (Q0 a).take i)
theorem mid_zero (hab : a ≠ b) : midQ Q0 a b 0 = Q0 := by
  funext s
  unfold midQ
  by_cases hb : s = b
  · subst hb; rw [upd_same]; simp
  · rw [upd_ne _ _ hb]
    by_cases ha : s = a
    · subst ha; rw [upd_same]; rfl
    · rw [upd_ne _ _ ha]
theorem mid_a (hab : a ≠ b) (j : Nat) : midQ Q0 a b j a = (Q0 a).drop j := by unfold midQ; rw [upd_ne _ _ hab, upd_same]
theorem mid_step (hab : a ≠ b) {j : Nat} (hj : j < (Q0 a).length) {S : List Int} (e : midQ Q0 a b j a = x :: S) : upd (upd (midQ Q0 a b j) a S) b (upd (midQ Q0 a b j) a S b ++ [x]) = midQ Q0 a b (j + 1) := by
  rw [mid_a hab, List.drop_eq_getElem_cons hj] at e
  injection e with e1 e2
  funext s
  by_cases hb : s = b
  · subst hb
    rw [upd_same, upd_ne _ _ (Ne.symm hab)]
    unfold midQ
    rw [upd_same, upd_same, List.take_succ_eq_append_getElem hj, e1, List.append_assoc]
  · rw [upd_ne _ _ hb]
    by_cases ha : s = a
    · subst ha; rw [upd_same, mid_a hab, e2]
    · rw [upd_ne _ _ ha]; unfold midQ; rw [upd_ne _ _ hb, upd_ne _ _ hb, upd_ne _ _ ha, upd_ne _ _ ha]
theorem mid_end {t : Nat} (ht : t < 32) (ha : a = srow t) (hb : b = urow t) {m : Nat} (hm : (begT Q t a).length = m) : midQ (begT Q t) a b m = begT Q (t + 1) ∧ begT Q t a = Q a := by
  have ha2 : a = t / 2 * 4 + t % 2 := ha
  have hb2 : b = t / 2 * 4 + 2 + t % 2 := hb
  have ea : begT Q t a = Q a := by unfold begT; rw [if_neg (by omega)]
  have eb : begT Q t b = Q b := by unfold begT; rw [if_neg (by omega)]
  refine ⟨?_, ea⟩
  funext s
  unfold midQ
  rw [← hm, List.drop_length, List.take_length, ea, eb]
  by_cases hsb : s = b
  · subst hsb
    rw [upd_same]
    unfold begT
    rw [if_pos (by omega), if_neg (by omega), show s - 2 = a by omega]
  · rw [upd_ne _ _ hsb]
    by_cases hsa : s = a
    · subst hsa
      rw [upd_same]
      unfold begT
      rw [if_pos (by omega), if_pos (by omega)]
    · rw [upd_ne _ _ hsa]
      unfold begT
      by_cases h1 : s < 64 ∧ s / 4 * 2 + s % 2 < t
      · have h2 : s < 64 ∧ s / 4 * 2 + s % 2 < t + 1 := by omega
        rw [if_pos h1, if_pos h2]
      · have h2 : ¬ (s < 64 ∧ s / 4 * 2 + s % 2 < t + 1) := by omega
        rw [if_neg h1, if_neg h2]
set_option maxRecDepth 100000 in
set_option maxHeartbeats 2000000 in
theorem begin_any (h : IsC w p R z n Q sp) (hn : n + msum Q 32 ≤ 1000000) : Calls Try.prog 21 #[.pointer (some ⟨p, 0, none⟩)] w (Makes (.tuple #[]) w p R z n Q sp (n + msum Q 32) (begQ Q)) := by
  have c0 := h.c0
  have hst : Hid (Makes (.tuple #[]) w p R z n Q sp (n + msum Q 0) (begT Q 0) (.returned (.tuple #[])) w) := Lib.hid ⟨sp, rfl, by rw [show begT Q 0 = Q from funext fun s => by unfold begT; rw [if_neg (by omega)]]; exact Wrote.refl _ _, by rw [show begT Q 0 = Q from funext fun s => by unfold begT; rw [if_neg (by omega)]]; exact h⟩
  clear h
  go_enter Try.func21, Try.ntmps21
  go_wp2_with fail
  clear c0
  go_loopw [14] (fun v wr => ∃ k : Nat, v = .int .i64 k ∧ k ≤ 16 ∧ Hid (Makes (.tuple #[]) w p R z n Q sp (n + msum Q (k * 2)) (begT Q (k * 2)) (.returned (.tuple #[])) wr)) (fun v _ => (16 - (RowKit.intOf v).toNat))
  case atStart => exact ⟨0, rfl, by omega, hst⟩
  case round =>
    clear hst
    obtain ⟨k, rfl, k1, hM⟩ := hrel
    by_cases hk : k < 16
    · have k2 : (k : Int) < 16 := by omega
      have k0 : (0 : Int) ≤ (k : Int) := by omega
      go_wp2_with fail
      go_loopw [17] (fun v wr => ∃ f : Nat, v = .int .i64 f ∧ f ≤ 2 ∧ Hid (Makes (.tuple #[]) w p R z n Q sp (n + msum Q (k * 2 + f)) (begT Q (k * 2 + f)) (.returned (.tuple #[])) wr)) (fun v _ => (2 - (RowKit.intOf v).toNat))
      case atStart => exact ⟨0, rfl, by omega, hM⟩
      case round =>
        clear hM
        obtain ⟨f, rfl, f1, hM⟩ := hrel
        by_cases hf : f < 2
        · have f2 : (f : Int) < 2 := by omega
          have f0 : (0 : Int) ≤ (f : Int) := by omega
          obtain ⟨sp1, _, hw1, hc1⟩ := hM.out
          have c0 := hc1.c0
          obtain ⟨t, ht⟩ : ∃ t, k * 2 + f = t := ⟨_, rfl⟩
          have ht32 : t < 32 := by omega
          have ha64 : srow t < 64 := by unfold srow; omega
          have hb64 : urow t < 64 := by unfold urow; omega
          have hab : srow t ≠ urow t := by unfold srow urow; omega
          have hoa : k * 12 + f * 3 = srow t * 3 := by unfold srow; omega
          have hob : k * 12 + 6 + f * 3 = urow t * 3 := by unfold urow; omega
          rw [ht] at hw1 hc1
          obtain ⟨m, hm⟩ : ∃ m, (begT Q t (srow t)).length = m := ⟨_, rfl⟩
          obtain ⟨hend, hq0⟩ := mid_end (Q := Q) ht32 rfl rfl hm
          have hnt : n + msum Q t + m ≤ 1000000 := by
            have h1 : msum Q (t + 1) = msum Q t + (Q (srow t)).length := rfl
            have h2 := msum_mono Q (t := t + 1) (u := 32) (by omega)
            rw [← hm, hq0]; omega
          have hnn : Hid (n + msum Q (k * 2 + (f + 1)) = n + msum Q t + m) := Lib.hid (by
            rw [show k * 2 + (f + 1) = t + 1 by omega, ← hm, hq0]
            show n + (msum Q t + _) = _
            omega)
          have hfe : Hid (begT Q (k * 2 + (f + 1)) = midQ (begT Q t) (srow t) (urow t) m) := Lib.hid (by rw [hend, ← ht]; rfl)
          have l0 := (hc1.rows.cells ha64).1
          have hst : Hid (∃ sp', (((begT Q t) (srow t)).drop 0).head?.map sp1 = (((begT Q t) (srow t)).drop 0).head?.map sp' ∧ Wrote (CH p R z Q sp) w (CH p R z (midQ (begT Q t) (srow t) (urow t) 0) sp') wr.drew ∧ IsC wr.drew p R z (n + msum Q t + 0) (midQ (begT Q t) (srow t) (urow t) 0) sp') := Lib.hid ⟨sp1, rfl, by rw [mid_zero hab]; exact hw1.drewN 1, by rw [mid_zero hab]; exact hc1.below (below_drewN (Below.refl _ _) 1)⟩
          clear hM hw1 hc1 hq0 hend ht32
          generalize begT Q t = Q0 at *
          generalize srow t = a at *
          generalize urow t = b at *
          generalize n + msum Q t = n0 at *
          go_wp2_with fail
          go_region
          all_goals
            have l0' : wr.drew.cell? ⟨R, a * 3, none⟩ = some (ptr ((Q0 a).head?.map sp1)) := l0
            obtain ⟨w2, hw2⟩ : ∃ w2, wr.drew = w2 := ⟨_, rfl⟩
            rw [hw2] at l0' hst ⊢
            clear hw2 l0 c0
            obtain ⟨o, ho⟩ : ∃ o, (Q0 a).head?.map sp1 = o := ⟨_, rfl⟩
            rw [ho] at l0'
            have hst2 : Hid (∃ sp', o = ((Q0 a).drop 0).head?.map sp' ∧ Wrote (CH p R z Q sp) w (CH p R z (midQ Q0 a b 0) sp') w2 ∧ IsC w2 p R z (n0 + 0) (midQ Q0 a b 0) sp') := Lib.hid (by
              obtain ⟨sp', e1, e2, e3⟩ := hst.out
              exact ⟨sp', by rw [← ho]; exact e1, e2, e3⟩)
            clear ho hst
            go_wp2_with fail
            go_loopg [6] m (fun g u wx => ∃ (j : Nat) (o : Option Nat), u = ptr o ∧ j + g = m ∧ Hid (∃ sp', o = ((Q0 a).drop j).head?.map sp' ∧ Wrote (CH p R z Q sp) w (CH p R z (midQ Q0 a b j) sp') wx ∧ IsC wx p R z (n0 + j) (midQ Q0 a b j) sp'))
            case atStart => exact ⟨0, o, rfl, by omega, hst2⟩
            case round =>
              clear hst2 l0'
              obtain ⟨j, o, rfl, hj, hH⟩ := hrel
              obtain ⟨sp2, ho, hw, hc⟩ := hH.out
              cases hg : (Q0 a).drop j with
              | nil =>
                rw [hg] at ho
                obtain rfl : o = none := ho
                have hjm : j = m := by have := congrArg List.length hg; rw [List.length_drop] at this; simp at this; omega
                subst hjm
                have hgo : Hid (Makes (.tuple #[]) w p R z n Q sp (n + msum Q (k * 2 + (f + 1))) (begT Q (k * 2 + (f + 1))) (.returned (.tuple #[])) wr) := Lib.hid (by
                  rw [hfe.out, hnn.out]; exact ⟨sp2, rfl, hw, hc⟩)
                clear hH hw hc hg hfe hnn
                simp only [ptr, Option.map_none]
                go_wp2_with fail
                go_roundw
                case rel => exact ⟨f + 1, by go_num, by omega, hgo⟩
                case measure => simp [RowKit.intOf]; omega
              | cons x S =>
                rw [hg] at ho
                obtain rfl : o = some (sp2 x) := ho
                have hjm : j < m := by have := congrArg List.length hg; rw [List.length_drop] at this; simp at this; omega
                have e1 : midQ Q0 a b j a = x :: S := by rw [mid_a hab]; exact hg
                have c1 := hc.c1
                have cd := move_mid (oa := a * 3) (ob := b * 3) hc ha64 hb64 hab e1 rfl rfl (by omega)
                have hx := hc.wf a x ha64 (by rw [e1]; simp)
                have hn5 : n0 + j < maxLen := by unfold maxLen; omega
                have hend : Hid (∀ w6, (∃ sp', Wrote (CH p R z (midQ Q0 a b j) sp2) wr (CH p R z (upd (upd (midQ Q0 a b j) a S) b (upd (midQ Q0 a b j) a S b ++ [x])) sp') w6 ∧ IsC w6 p R z (n0 + j + 1) (upd (upd (midQ Q0 a b j) a S) b (upd (midQ Q0 a b j) a S b ++ [x])) sp') → ∃ o', w6.cell? ⟨R, a * 3, none⟩ = some (ptr o') ∧ Hid (∃ sp', o' = ((Q0 a).drop (j + 1)).head?.map sp' ∧ Wrote (CH p R z Q sp) w (CH p R z (midQ Q0 a b (j + 1)) sp') w6 ∧ IsC w6 p R z (n0 + (j + 1)) (midQ Q0 a b (j + 1)) sp')) := Lib.hid fun w6 ⟨sp', g1, g2⟩ => by
                  rw [mid_step hab (by omega) e1] at g1 g2
                  refine ⟨_, (g2.rows.cells ha64).1, Lib.hid ⟨sp', by rw [mid_a hab], hw.trans g1, g2⟩⟩
                clear hH hw hc e1 hg hfe hnn
                simp only [ptr, Option.map_some]
                generalize upd (upd (midQ Q0 a b j) a S) b (upd (midQ Q0 a b j) a S b ++ [x]) = Q9 at *
                generalize hQ8 : midQ Q0 a b j = Q8 at *
                generalize hbx : sp2 x = bx at *
                replace hQ8 := Lib.hid hQ8
                replace hbx := Lib.hid hbx
                go_wp2_with fail
                with_reducible refine Calls.mono cd ?_
                rintro e w3 ⟨rfl, ⟨d1, d2⟩, hP⟩
                clear cd c1
                go_wp2_with fail
                go_region_law (refine step_call2 rfl 63 (.tmp 59) (.tmp 63) rfl (.pointer (some ⟨R, _, none⟩)) (.int .i64 x) ?_ ?_ ?_ (hP.out _ ?_ ?_ ?_ ?_) ?_; rfl; rfl; rfl; rfl; rfl; rfl; rfl; rintro e w5 ⟨N, rfl, c1', c2', hm5, hend5⟩; obtain ⟨w6, hrun, g1, g2⟩ := hm5.out.store Try.underlying102 hn5 hx (v := .pointer (some ⟨N, 0, none⟩)) (d := .lit (.int .i64 N)) rfl; have hgo := hend.out w6 (hend5.out w6 g1 g2); obtain ⟨o', l6, hgo⟩ := hgo; clear g1 g2 hm5 hend5 hend; refine ⟨_, rfl, ?_⟩)
                all_goals
                  go_wp2_with fail
                  go_roundg (m - (j + 1))
                  case measure => omega
                  case rel => exact ⟨j + 1, o', rfl, by omega, hgo⟩
        · obtain rfl : f = 2 := by omega
          go_wp2_with fail
          go_roundw
          case rel => exact ⟨k + 1, by go_num, by omega, by rw [show (k + 1) * 2 = k * 2 + 2 by omega]; exact hM⟩
          case measure => simp [RowKit.intOf]; omega
    · obtain rfl : k = 16 := by omega
      go_wp2_with fail
      go_end0
      exact hM.out
end Ce
end Go.Proofs.Ytejijddhmckgiaa
