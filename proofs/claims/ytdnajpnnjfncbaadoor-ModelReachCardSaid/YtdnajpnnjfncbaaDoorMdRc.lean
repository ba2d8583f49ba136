import Derived.Test.YtdnajpnnjfncbaaDoorMA7
/- The model: what can be reached behind a step could be reached ahead, or is new. -/
namespace Go.Proofs.YtdnajpnnjfncbaaDoor
open Go.RowKit Go.Lib Fx Ho Gr
set_option linter.unusedVariables false
namespace Md
open Cd (Ins zi ca c4 okI hasB bnd kd okAt CntOk MayIs)
variable {fs : List (List Ins)} {M M' Mh : Mo} {g a b c n i G K K' : Nat} {r r' : Gor} {ts : Int}
theorem rc_least (P : Nat → Prop) (hg : ∀ z ∈ M.gl, z ≠ 0 → P z.toNat) (hs : ∀ h, h < M.st.length → M.st.getD h 0 ≠ 5 → ∀ z ∈ (M.gs.getD h g0).sk, z ≠ 0 → P z.toNat) (ho : ∀ i, P i → ∀ z ∈ M.ob.getD (i - 1) [], z ≠ 0 → P z.toNat) {i : Nat} (h : Rc M i) : P i := by
  induction h with
  | gl h1 h2 => exact hg _ h1 h2
  | sk h1 h2 h3 h4 => exact hs _ h1 h2 _ h3 h4
  | ob _ h2 h3 ih => exact ho _ ih _ h2 h3
theorem Inv.rc_le (h : Inv G fs M K) {i : Nat} (hi : Rc M i) : 1 ≤ i ∧ i ≤ M.ob.length := by
  refine rc_least (fun i => 1 ≤ i ∧ i ≤ M.ob.length) (fun z hz hn => ?_) (fun h' hh _ z hz hn => ?_) (fun i hP z hz hn => ?_) hi
  · have := h.glv z hz; omega
  · have hl := h.len
    have := (h.gor _ (getD_mem g0 (show h' < M.gs.length by omega))).val z hz; omega
  · have := h.obv _ (getD_mem [] (show i - 1 < M.ob.length by omega)) z hz; omega
/-- What stands behind a step: in terms of what could be reached ahead. -/
structure Bh (M Mh : Mo) (g : Nat) : Prop where
  gl : ∀ z ∈ Mh.gl, z ≠ 0 → Rc M z.toNat
  st : ∀ h, h ≠ g → h < Mh.st.length → Mh.st.getD h 0 ≠ 5 → h < M.st.length ∧ M.st.getD h 0 ≠ 5 ∧ Mh.gs.getD h g0 = M.gs.getD h g0
  ob : ∀ i, Rc M i → ∀ z ∈ Mh.ob.getD (i - 1) [], z ≠ 0 → Rc M z.toNat
  nw : ∀ z ∈ Mh.ob.getD M.ob.length [], z = 0
theorem bh_refl (M : Mo) (g : Nat) : Bh M M g := ⟨fun z hz hn => .gl hz hn, fun h _ h1 h2 => ⟨h1, h2, rfl⟩, fun i hi z hz hn => .ob hi hz hn, fun z hz => by rw [getD_none (Nat.le_refl _)] at hz; cases hz⟩
theorem rc_r (h : Bh M Mh g) (hg : g < Mh.gs.length) (hr : ts ≠ 5 → ∀ z ∈ r'.sk, z ≠ 0 → Rc M z.toNat ∨ z.toNat = M.ob.length + 1) {y : Mo × Int × Int × Bool} (e : y.1 = { Mh with st := Mh.st.set g 2, gs := Mh.gs.set g r' }) (e2 : y.2.2.1 = ts) (hl : Mh.st.length = Mh.gs.length) {i : Nat} (hi : Rc { y.1 with st := y.1.st.set g y.2.2.1 } i) : Rc M i ∨ i = M.ob.length + 1 := by
  rw [e, e2] at hi
  refine rc_least (M := { Mh with st := (Mh.st.set g 2).set g ts, gs := Mh.gs.set g r' }) (fun i => Rc M i ∨ i = M.ob.length + 1) (fun z hz hn => .inl (h.gl z hz hn)) (fun k hk h5 z hz hn => ?_) (fun i hP z hz hn => ?_) hi
  · have hk : k < ((Mh.st.set g 2).set g ts).length := hk
    have h5 : ((Mh.st.set g 2).set g ts).getD k 0 ≠ 5 := h5
    have hz : z ∈ ((Mh.gs.set g r').getD k g0).sk := hz
    rw [List.length_set, List.length_set] at hk
    rw [List.set_set] at h5
    by_cases e3 : g = k
    · subst e3
      rw [getD_set_eq (by omega)] at h5
      rw [getD_set_eq hg] at hz
      exact hr h5 z hz hn
    · rw [getD_set_ne e3] at h5 hz
      obtain ⟨q1, q2, q3⟩ := h.st k (fun e4 => e3 e4.symm) hk h5
      rw [q3] at hz
      exact .inl (.sk q1 q2 hz hn)
  · rcases hP with hP | rfl
    · exact .inl (h.ob i hP z hz hn)
    · rw [Nat.add_sub_cancel] at hz
      exact absurd (h.nw z hz) hn
theorem mem_set_getD {l : List (List Int)} {k j : Nat} {o : List Int} {z : Int} (h : z ∈ (l.set k o).getD j []) : z ∈ l.getD j [] ∨ (k = j ∧ j < l.length ∧ z ∈ o) := by
  by_cases e : k = j
  · subst e
    rcases Nat.lt_or_ge k l.length with hk | hk
    · rw [getD_set_eq hk] at h
      exact .inr ⟨rfl, hk, h⟩
    · rw [getD_none (by rw [List.length_set]; exact hk)] at h
      cases h
  · rw [getD_set_ne e] at h
    exact .inl h
theorem rc_step (hP : Pg G fs) (h : Inv G fs M K) (hg : g < M.gs.length) (h1 : M.st.getD g 0 = 1) {j : Nat} (hj : Rc (step fs M g) j) : Rc M j ∨ j = M.ob.length + 1 := by
  have hG0 := h.gor _ (getD_mem g0 hg)
  obtain ⟨op, a, b, c, hx, hfit, hop⟩ := next_fit (r := M.gs.getD g g0) hP hG0.f
  have hout : outI fs M g = doI (doM M g) g op a b c := by unfold outI insAt; rw [hx]; simp only [Int.toNat_natCast]
  unfold step at hj
  rw [hout] at hj
  clear hout
  unfold doM at hj
  have hl := h.len
  have skr : ∀ z ∈ (M.gs.getD g g0).sk, z ≠ 0 → Rc M z.toNat := fun z hz hn => .sk (g := g) (by omega) (by rw [h1]; decide) hz hn
  generalize hr : M.gs.getD g g0 = r at *
  obtain ⟨r1, hr1⟩ : ∃ r1 : Gor, ({ r with pc := r.pc + 1 } : Gor) = r1 := ⟨_, rfl⟩
  rw [hr1] at hj
  have hk1 : r1.sk = r.sk := by rw [← hr1]
  have hsk : r1.sk.length = 16 := by rw [hk1]; exact hG0.sk
  rw [← hk1] at skr
  have sk1 : ∀ z ∈ r1.sk, z ≠ 0 → Rc M z.toNat ∨ z.toNat = M.ob.length + 1 := fun z hz hn => .inl (skr z hz hn)
  have at1 : ∀ k, k < 16 → r1.sk.getD k 0 ≠ 0 → Rc M (r1.sk.getD k 0).toNat := fun k hk hn => skr _ (getD_mem 0 (by omega)) hn
  have val1 : ∀ k, k < 16 → 0 ≤ r1.sk.getD k 0 := fun k hk => (hG0.val _ (by rw [← hk1]; exact getD_mem 0 (by omega))).1
  have hget : (M.gs.set g r1).getD g g0 = r1 := getD_set_eq hg
  have put : ∀ (k : Nat) (v : Int), (v ≠ 0 → Rc M v.toNat ∨ v.toNat = M.ob.length + 1) → ∀ z ∈ r1.sk.set k v, z ≠ 0 → Rc M z.toNat ∨ z.toNat = M.ob.length + 1 := fun k v hv z hz hn => (List.mem_or_eq_of_mem_set hz).elim (fun e => sk1 z e hn) (fun e => by subst e; exact hv hn)
  have hB0 := bh_refl M g
  obtain ⟨h18, hk⟩ := hfit
  have hA := fun k e => hk k a (.inl ⟨e, rfl⟩)
  have hB := fun k e => hk k b (.inr (.inl ⟨e, rfl⟩))
  have hC := fun k e => hk k c (.inr (.inr ⟨e, rfl⟩))
  rcases (show op = 0 ∨ op = 1 ∨ op = 2 ∨ op = 3 ∨ op = 4 ∨ op = 5 ∨ op = 6 ∨ op = 7 ∨ op = 8 ∨ op = 9 ∨ op = 10 ∨ op = 11 ∨ op = 12 ∨ op = 13 ∨ op = 14 ∨ op = 15 ∨ op = 16 ∨ op = 17 by omega) with rfl | rfl | rfl | rfl | rfl | rfl | rfl | rfl | rfl | rfl | rfl | rfl | rfl | rfl | rfl | rfl | rfl | rfl
  · exact rc_r (r' := r1) hB0 hg (fun e => absurd rfl e) (by simp only [doI]) rfl hl hj
  · refine rc_r (r' := { r1 with sk := r1.sk.set a ((M.ob.length : Int) + 1) }) (Mh := { M with ob := M.ob ++ [List.replicate (b + 1) 0] }) ⟨hB0.gl, hB0.st, fun i hi z hz hn => ?_, fun z hz => ?_⟩ hg (fun _ => put a ((M.ob.length : Int) + 1) (fun _ => .inr (by omega))) (by simp only [doI, hget, List.set_set]) rfl hl hj
    · have hi2 := h.rc_le hi
      have hz : z ∈ (M.ob ++ [List.replicate (b + 1) 0]).getD (i - 1) [] := hz
      rw [getD_app1 _ (by omega)] at hz
      exact .ob hi hz hn
    · have hz : z ∈ (M.ob ++ [List.replicate (b + 1) 0]).getD M.ob.length [] := hz
      rw [getD_app2] at hz
      exact List.eq_of_mem_replicate hz
  · have hb := (hB 2 rfl).2.2.1 rfl
    have e0 : doI { M with st := M.st.set g 2, gs := M.gs.set g r1 } g 2 a b c = (match slotOf M (r1.sk.getD b 0) c with | none => ({ M with st := M.st.set g 2, gs := M.gs.set g r1 }, 0, 5, true) | some z => ({ M with st := M.st.set g 2, gs := M.gs.set g { r1 with sk := r1.sk.set a z } }, z, 1, false)) := by
      simp only [doI, hget, List.set_set]; rfl
    rw [e0] at hj
    cases hz : slotOf M (r1.sk.getD b 0) c with
    | none =>
      rw [hz] at hj
      exact rc_r hB0 hg (fun e => absurd rfl e) rfl rfl hl hj
    | some z =>
      rw [hz] at hj
      have hv := slot_val h (val1 b hb) hz
      exact rc_r (r' := { r1 with sk := r1.sk.set a z }) hB0 hg (fun _ => put a z (fun hn => .inl (.ob (at1 b hb (by omega)) hv.2.2.2.2.1 hn))) rfl rfl hl hj
  · have ha := (hA 2 rfl).2.2.1 rfl
    have hc := (hC 2 rfl).2.2.1 rfl
    have e0 : doI { M with st := M.st.set g 2, gs := M.gs.set g r1 } g 3 a b c = (match slotOf M (r1.sk.getD a 0) b with | none => ({ M with st := M.st.set g 2, gs := M.gs.set g r1 }, 0, 5, true) | some _ => ({ M with st := M.st.set g 2, gs := M.gs.set g r1, ob := M.ob.set ((r1.sk.getD a 0).toNat - 1) ((M.ob.getD ((r1.sk.getD a 0).toNat - 1) []).set b (r1.sk.getD c 0)) }, 0, 1, false)) := by
      simp only [doI, hget]; rfl
    rw [e0] at hj
    cases hz : slotOf M (r1.sk.getD a 0) b with
    | none =>
      rw [hz] at hj
      exact rc_r hB0 hg (fun e => absurd rfl e) rfl rfl hl hj
    | some z =>
      rw [hz] at hj
      refine rc_r (Mh := { M with ob := M.ob.set ((r1.sk.getD a 0).toNat - 1) ((M.ob.getD ((r1.sk.getD a 0).toNat - 1) []).set b (r1.sk.getD c 0)) }) ⟨hB0.gl, hB0.st, fun i hi z hz2 hn => ?_, fun z hz2 => ?_⟩ hg (fun _ => sk1) rfl rfl hl hj
      · rcases mem_set_getD hz2 with e | ⟨e1, e2, e3⟩
        · exact .ob hi e hn
        · rcases List.mem_or_eq_of_mem_set e3 with e4 | e4
          · rw [e1] at e4
            exact .ob hi e4 hn
          · subst e4
            exact at1 c hc hn
      · rcases mem_set_getD hz2 with e | ⟨e1, e2, e3⟩
        · exact hB0.nw z e
        · omega
  · have hb := (hB 2 rfl).2.2.1 rfl
    exact rc_r (r' := { r1 with sk := r1.sk.set a (r1.sk.getD b 0) }) hB0 hg (fun _ => put a (r1.sk.getD b 0) (fun hn => .inl (at1 b hb hn))) (by simp only [doI, hget, List.set_set]) rfl hl hj
  · exact rc_r (r' := { r1 with sk := r1.sk.set a 0 }) hB0 hg (fun _ => put a 0 (fun hn => absurd rfl hn)) (by simp only [doI, hget, List.set_set]) rfl hl hj
  · have hb := (hB 3 rfl).2.2.2.1 rfl
    exact rc_r (r' := { r1 with sk := r1.sk.set a (M.gl.getD b 0) }) hB0 hg (fun _ => put a (M.gl.getD b 0) (fun hn => .inl (.gl (getD_mem 0 (by rw [h.gl]; exact hb)) hn))) (by simp only [doI, hget, List.set_set]) rfl hl hj
  · have hb := (hB 2 rfl).2.2.1 rfl
    exact rc_r (Mh := { M with gl := M.gl.set a (r1.sk.getD b 0) }) ⟨fun z hz hn => (List.mem_or_eq_of_mem_set hz).elim (fun e => .gl e hn) (fun e => by subst e; exact at1 b hb hn), hB0.st, hB0.ob, hB0.nw⟩ hg (fun _ => sk1) (by simp only [doI, hget]) rfl hl hj
  · have hb := (hB 2 rfl).2.2.1 rfl
    by_cases hf : M.st.length < 1024
    · have e0 : doI { M with st := M.st.set g 2, gs := M.gs.set g r1 } g 8 a b c = ({ M with st := M.st.set g 2 ++ [1], gs := M.gs.set g r1 ++ [fresh a (r1.sk.getD b 0)] }, ((M.st.set g 2).length : Int), 1, false) := by
        simp only [doI, hget]; rw [if_pos (by rw [List.length_set]; exact hf)]
      rw [e0] at hj
      refine rc_least (M := { M with st := (M.st.set g 2 ++ [1]).set g 1, gs := M.gs.set g r1 ++ [fresh a (r1.sk.getD b 0)] }) (fun i => Rc M i ∨ i = M.ob.length + 1) (fun z hz hn => .inl (.gl hz hn)) (fun k hk h5 z hz hn => ?_) (fun i hP z hz hn => ?_) hj
      · have hk : k < ((M.st.set g 2 ++ [1]).set g 1).length := hk
        have h5 : ((M.st.set g 2 ++ [1]).set g 1).getD k 0 ≠ 5 := h5
        have hz : z ∈ ((M.gs.set g r1 ++ [fresh a (r1.sk.getD b 0)]).getD k g0).sk := hz
        rw [List.set_append_left _ _ (by rw [List.length_set]; omega), List.set_set] at hk h5
        rw [List.length_append, List.length_set, List.length_singleton] at hk
        rcases Nat.lt_or_ge k M.st.length with e | e
        · rw [getD_app1 _ (by rw [List.length_set]; exact e)] at h5
          rw [getD_app1 _ (by rw [List.length_set]; omega)] at hz
          by_cases e3 : g = k
          · subst e3
            rw [getD_set_eq hg] at hz
            exact sk1 z hz hn
          · rw [getD_set_ne e3] at h5 hz
            exact .inl (.sk e h5 hz hn)
        · obtain rfl : k = M.gs.length := by omega
          have e4 : (M.gs.set g r1).length = M.gs.length := List.length_set
          rw [← e4, getD_app2] at hz
          have hz : z ∈ r1.sk.getD b 0 :: List.replicate 15 (0 : Int) := hz
          rcases List.mem_cons.1 hz with rfl | hz
          · exact .inl (at1 b hb hn)
          · exact absurd (List.eq_of_mem_replicate hz) hn
      · rcases hP with hP | rfl
        · exact .inl (.ob hP hz hn)
        · rw [Nat.add_sub_cancel] at hz
          exact absurd (hB0.nw z hz) hn
    · have e0 : doI { M with st := M.st.set g 2, gs := M.gs.set g r1 } g 8 a b c = ({ M with st := M.st.set g 2, gs := M.gs.set g r1 }, 0, 5, true) := by
        simp only [doI, hget]; rw [if_neg (by rw [List.length_set]; exact hf)]
      rw [e0] at hj
      exact rc_r hB0 hg (fun e => absurd rfl e) rfl rfl hl hj
  · exact rc_r hB0 hg (fun _ => sk1) (by simp only [doI]) rfl hl hj
  · exact rc_r (Mh := { M with tm := M.tm ++ [(M.ck + ((256 * b + c + 1 : Nat) : Int), (g : Int), (M.tn : Int))], tn := M.tn + 1 }) ⟨hB0.gl, hB0.st, hB0.ob, hB0.nw⟩ hg (fun _ => sk1) (by simp only [doI]) rfl hl hj
  · exact rc_r (Mh := { M with wz := Wt.upd M.wz a (M.wz a ++ [(g : Int)]) }) ⟨hB0.gl, hB0.st, hB0.ob, hB0.nw⟩ hg (fun _ => sk1) (by simp only [doI]) rfl hl hj
  · have ha := (hA 6 rfl).2.2.2.2.2.2 rfl
    cases hz : M.wz a with
    | nil =>
      have e0 : doI { M with st := M.st.set g 2, gs := M.gs.set g r1 } g 12 a b c = ({ M with st := M.st.set g 2, gs := M.gs.set g r1 }, -1, 1, false) := by
        simp only [doI, hz]
      rw [e0] at hj
      exact rc_r hB0 hg (fun _ => sk1) rfl rfl hl hj
    | cons x T =>
      obtain ⟨t, rfl, ht, h3⟩ := h.w3 a ha x (by rw [hz]; simp)
      have hne : t ≠ g := fun e => by subst e; rw [h1] at h3; exact absurd h3 (by decide)
      have e0 : doI { M with st := M.st.set g 2, gs := M.gs.set g r1 } g 12 a b c = ({ M with wz := Wt.upd M.wz a T, st := (M.st.set g 2).set t 1, gs := M.gs.set g r1 }, (t : Int), 1, false) := by
        simp only [doI, hz, Int.toNat_natCast]
      rw [e0, List.set_comm _ _ (fun e => hne e.symm)] at hj
      refine rc_r (Mh := { M with wz := Wt.upd M.wz a T, st := M.st.set t 1 }) ⟨hB0.gl, fun k hk h2 h5 => ?_, hB0.ob, hB0.nw⟩ hg (fun _ => sk1) rfl rfl (by show (M.st.set t 1).length = _; rw [List.length_set]; exact hl) hj
      have h2 : k < (M.st.set t 1).length := h2
      have h5 : (M.st.set t 1).getD k 0 ≠ 5 := h5
      rw [List.length_set] at h2
      refine ⟨h2, ?_, rfl⟩
      by_cases e : t = k
      · subst e; rw [h3]; decide
      · rw [getD_set_ne e] at h5; exact h5
  · exact rc_r hB0 hg (fun _ => sk1) (by simp only [doI]) rfl hl hj
  · exact rc_r (r' := { r1 with pc := a }) hB0 hg (fun _ => sk1) (by simp only [doI, hget, List.set_set]) rfl hl hj
  · by_cases he : (r1.sk.getD a 0 == r1.sk.getD b 0) = true
    · exact rc_r (r' := { r1 with pc := c }) hB0 hg (fun _ => sk1) (by simp only [doI, hget, List.set_set, he, if_true]) rfl hl hj
    · exact rc_r hB0 hg (fun _ => sk1) (by simp only [doI, hget, he]; rfl) rfl hl hj
  · exact rc_r (r' := { r1 with ct := 256 * a + b }) hB0 hg (fun _ => sk1) (by simp only [doI, hget, List.set_set]) rfl hl hj
  · by_cases he : 0 < r1.ct
    · exact rc_r (r' := { r1 with ct := r1.ct - 1, pc := a }) hB0 hg (fun _ => sk1) (by simp only [doI, hget, List.set_set, he, if_true]) rfl hl hj
    · exact rc_r hB0 hg (fun _ => sk1) (by simp only [doI, hget, he, if_false]) rfl hl hj
/-- What is made can be reached. -/
theorem rc_alloc (hP : Pg G fs) (h : Inv G fs M K) (hg : g < M.gs.length) (h1 : M.st.getD g 0 = 1) (hop : (insAt fs M g).1 = 1) : (outI fs M g).2.1 = M.ob.length + 1 ∧ Rc (step fs M g) (M.ob.length + 1) := by
  have hG0 := h.gor _ (getD_mem g0 hg)
  have hl := h.len
  obtain ⟨op, a, b, c, hx, hfit, _⟩ := next_fit (r := M.gs.getD g g0) hP hG0.f
  have e1 : op = 1 := by unfold insAt at hop; rw [hx] at hop; have : (op : Int) = 1 := hop; omega
  subst e1
  have ha := (hfit.2 2 a (.inl ⟨rfl, rfl⟩)).2.2.1 rfl
  have hout : outI fs M g = doI (doM M g) g 1 a b c := by unfold outI insAt; rw [hx]; simp only [Int.toNat_natCast]
  have hget : (doM M g).gs.getD g g0 = { M.gs.getD g g0 with pc := (M.gs.getD g g0).pc + 1 } := getD_set_eq hg
  have hsk := hG0.sk
  refine ⟨by rw [hout]; rfl, ?_⟩
  have e2 : M.ob.length + 1 = (((M.ob.length : Int) + 1)).toNat := by omega
  rw [e2]
  refine Rc.sk (g := g) ?_ ?_ ?_ (by omega)
  · unfold step; rw [hout]
    show g < ((M.st.set g 2).set g 1).length
    rw [List.length_set, List.length_set]; omega
  · unfold step; rw [hout]
    show ((M.st.set g 2).set g 1).getD g 0 ≠ 5
    rw [getD_set_eq (by rw [List.length_set]; omega)]; decide
  · unfold step; rw [hout]
    show (M.ob.length : Int) + 1 ∈ (((doM M g).gs.set g { (doM M g).gs.getD g g0 with sk := ((doM M g).gs.getD g g0).sk.set a ((M.ob.length : Int) + 1) }).getD g g0).sk
    rw [getD_set_eq (by show g < (M.gs.set g _).length; rw [List.length_set]; exact hg), hget]
    show (M.ob.length : Int) + 1 ∈ (M.gs.getD g g0).sk.set a ((M.ob.length : Int) + 1)
    exact List.mem_of_getElem? (i := a) (by rw [List.getElem?_set_self (by omega)])
theorem rc_tick (h : Inv G fs M K) {D T : List Sl} (hp : (D ++ T).Perm M.tm) {x : Int} {i : Nat} (hi : Rc (tickM M x D T) i) : Rc M i := by
  refine rc_least (M := tickM M x D T) (fun i => Rc M i) (fun z hz hn => .gl hz hn) (fun k hk h5 z hz hn => ?_) (fun i hP z hz hn => .ob hP hz hn) hi
  have hk : k < (wakeAll M.st (D.map (·.2.1))).length := hk
  have h5 : (wakeAll M.st (D.map (·.2.1))).getD k 0 ≠ 5 := h5
  rw [wakeAll_len] at hk
  refine .sk hk (fun e => h5 ?_) hz hn
  have pos : ∀ y ∈ D.map (·.2.1), (0 : Int) ≤ y := fun y hy => by
    obtain ⟨s, hs, rfl⟩ := List.mem_map.1 hy
    obtain ⟨t, e, _⟩ := h.t3 s (hp.mem_iff.1 (by simp [hs]))
    show 0 ≤ s.2.1
    omega
  rw [wakeAll_out _ _ _ pos (fun hm => by
    obtain ⟨s, hs, e2⟩ := List.mem_map.1 hm
    obtain ⟨t, e3, _, h3⟩ := h.t3 s (hp.mem_iff.1 (by simp [hs]))
    have e2 : s.2.1 = (k : Int) := e2
    obtain rfl : t = k := by omega
    rw [h3] at e
    exact absurd e (by decide))]
  exact e
end Md
end Go.Proofs.YtdnajpnnjfncbaaDoor
