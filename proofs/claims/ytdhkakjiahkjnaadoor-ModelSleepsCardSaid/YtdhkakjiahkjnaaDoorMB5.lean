import Derived.Test.YtdhkakjiahkjnaaDoorMA7
import Derived.Test.YtdhkakjiahkjnaaDoorMB4
import Derived.Test.YtdhkakjiahkjnaaDoorMA1
import Derived.Deep.Slices
/- The model: what can be reached behind a step could be reached ahead, or is new. -/
namespace Go.Proofs.YtdhkakjiahkjnaaDoor
open Go.RowKit Go.Lib Fx Ho Gr
set_option linter.unusedVariables false
namespace Md
open Cd (Ins zi ca c4 okI hasB bnd kd okAt CntOk MayIs)
variable {fs : List (List Ins)} {M M' Mh : Mo} {g a b c n i G K K' : Nat} {r r' : Gor} {ts : Int}
theorem rc_least (P : Nat → Prop) (hg : ∀ z ∈ M.gl, z ≠ 0 → P z.toNat) (hs : ∀ h, h < M.st.length → M.st.getD h 0 ≠ 5 → ∀ z ∈ (M.gs.getD h g0).sk, z ≠ 0 → P z.toNat) (ho : ∀ i, P i → ∀ z ∈ M.ob.getD (i - 1) [], z ≠ 0 → P z.toNat) {i : Nat} (h : Rc M i) : P i := by
  induction h with
  | gl h1 h2 => exact hg _ h1 h2
  | sk h1 h2 h3 h4 => exact hs _ h1 h2 _ h3 h4
  | ob _ h2 h3 ih => exact ho _ ih _ h2 h3
theorem Inv.rc_le (h : Inv G fs M K) {i : Nat} (hi : Rc M i) : 1 ≤ i ∧ i ≤ M.ob.length := by
  refine rc_least (fun i => 1 ≤ i ∧ i ≤ M.ob.length) (fun z hz hn => ?_) (fun h' hh _ z hz hn => ?_) (fun i hP z hz hn => ?_) hi
  · have := h.glv z hz; omega
  · have hl := h.len
    have := (h.gor _ (getD_mem g0 (show h' < M.gs.length by omega))).val z hz; omega
  · have := h.obv _ (getD_mem [] (show i - 1 < M.ob.length by omega)) z hz; omega
/-- What stands behind a step: in terms of what could be reached ahead. -/
structure Bh (M Mh : Mo) (g : Nat) : Prop where
  gl : ∀ z ∈ Mh.gl, z ≠ 0 → Rc M z.toNat
  st : ∀ h, h ≠ g → h < Mh.st.length → Mh.st.getD h 0 ≠ 5 → h < M.st.length ∧ M.st.getD h 0 ≠ 5 ∧ Mh.gs.getD h g0 = M.gs.getD h g0
  ob : ∀ i, Rc M i → ∀ z ∈ Mh.ob.getD (i - 1) [], z ≠ 0 → Rc M z.toNat
  nw : ∀ z ∈ Mh.ob.getD M.ob.length [], z = 0
theorem bh_refl (M : Mo) (g : Nat) : Bh M M g := ⟨fun z hz hn => .gl hz hn, fun h _ h1 h2 => ⟨h1, h2, rfl⟩, fun i hi z hz hn => .ob hi hz hn, fun z hz => by rw [getD_none (Nat.le_refl _)] at hz; cases hz⟩
theorem rc_r (h : Bh M Mh g) (hg : g < Mh.gs.length) (hr : ts ≠ 5 → ∀ z ∈ r'.sk, z ≠ 0 → Rc M z.toNat ∨ z.toNat = M.ob.length + 1) {y : Mo × Int × Int × Bool} (e : y.1 = { Mh with st := Mh.st.set g 2, gs := Mh.gs.set g r' }) (e2 : y.2.2.1 = ts) (hl : Mh.st.length = Mh.gs.length) {i : Nat} (hi : Rc { y.1 with st := y.1.st.set g y.2.2.1 } i) : Rc M i ∨ i = M.ob.length + 1 := by
  rw [e, e2] at hi
  refine rc_least (M := { Mh with st := (Mh.st.set g 2).set g ts, gs := Mh.gs.set g r' }) (fun i => Rc M i ∨ i = M.ob.length + 1) (fun z hz hn => .inl (h.gl z hz hn)) (fun k hk h5 z hz hn => ?_) (fun i hP z hz hn => ?_) hi
  · have hk : k < ((Mh.st.set g 2).set g ts).length := hk
    have h5 : ((Mh.st.set g 2).set g ts).getD k 0 ≠ 5 := h5
    have hz : z ∈ ((Mh.gs.set g r').getD k g0).sk := hz
    rw [List.length_set, List.length_set] at hk
    rw [List.set_set] at h5
    by_cases e3 : g = k
    · subst e3
      rw [getD_set_eq (by omega)] at h5
      rw [getD_set_eq hg] at hz
      exact hr h5 z hz hn
    · rw [getD_set_ne e3] at h5 hz
      obtain ⟨q1, q2, q3⟩ := h.st k (fun e4 => e3 e4.symm) hk h5
      rw [q3] at hz
      exact .inl (.sk q1 q2 hz hn)
  · rcases hP with hP | rfl
    · exact .inl (h.ob i hP z hz hn)
    · rw [Nat.add_sub_cancel] at hz
      exact absurd (h.nw z hz) hn
theorem mem_set_getD {l : List (List Int)} {k j : Nat} {o : List Int} {z : Int} (h : z ∈ (l.set k o).getD j []) : z ∈ l.getD j [] ∨ (k = j ∧ j < l.length ∧ z ∈ o) := by
  by_cases e : k = j
  · subst e
    rcases Nat.lt_or_ge k l.length with hk | hk
    · rw [getD_set_eq hk] at h
      exact .inr ⟨rfl, hk, h⟩
    · rw [getD_none (by rw [List.length_set]; exact hk)] at h
      cases h
  · rw [getD_set_ne e] at h
    exact .inl h
theorem rc_step (hP : Pg G fs) (h : Inv G fs M K) (hg : g < M.gs.length) (h1 : M.st.getD g 0 = 1) {j : Nat} (hj : Rc (step fs M g) j) : Rc M j ∨ j = M.ob.length + 1 := by
  have hG0 := h.gor _ (getD_mem g0 hg)
  obtain ⟨op, a, b, c, hx, hfit, hop⟩ := next_fit (r := M.gs.getD g g0) hP hG0.f
  have hout : outI fs M g = doI (doM M g) g op a b c := by unfold outI insAt; rw [hx]; simp only [Int.toNat_natCast]
  unfold step at hj
  rw [hout] at hj
  clear hout
  unfold doM at hj
  have hl := h.len
  have skr : ∀ z ∈ (M.gs.getD g g0).sk, z ≠ 0 → Rc M z.toNat := fun z hz hn => .sk (g := g) (by omega) (by rw [h1]; decide) hz hn
  generalize hr : M.gs.getD g g0 = r at *
  obtain ⟨r1, hr1⟩ : ∃ r1 : Gor, ({ r with pc := r.pc + 1 } : Gor) = r1 := ⟨_, rfl⟩
  rw [hr1] at hj
  have hk1 : r1.sk = r.sk := by rw [← hr1]
  have hsk : r1.sk.length = 16 := by rw [hk1]; exact hG0.sk
  rw [← hk1] at skr
  have sk1 : ∀ z ∈ r1.sk, z ≠ 0 → Rc M z.toNat ∨ z.toNat = M.ob.length + 1 := fun z hz hn => .inl (skr z hz hn)
  have at1 : ∀ k, k < 16 → r1.sk.getD k 0 ≠ 0 → Rc M (r1.sk.getD k 0).toNat := fun k hk hn => skr _ (getD_mem 0 (by omega)) hn
  have val1 : ∀ k, k < 16 → 0 ≤ r1.sk.getD k 0 := fun k hk => (hG0.val _ (by rw [← hk1]; exact getD_mem 0 (by omega))).1
  have hget : (M.gs.set g r1).getD g g0 = r1 := getD_set_eq hg
  have put : ∀ (k : Nat) (v : Int), (v ≠ 0 → Rc M v.toNat ∨ v.toNat = M.ob.length + 1) → ∀ z ∈ r1.sk.set k v, z ≠ 0 → Rc M z.toNat ∨ z.toNat = M.ob.length + 1 := fun k v hv z hz hn => (List.mem_or_eq_of_mem_set hz).elim (fun e => sk1 z e hn) (fun e => by subst e; exact hv hn)
  have hB0 := bh_refl M g
  obtain ⟨h18, hk⟩ := hfit
  have hA := fun k e => hk k a (.inl ⟨e, rfl⟩)
  have hB := fun k e => hk k b (.inr (.inl ⟨e, rfl⟩))
  have hC := fun k e => hk k c (.inr (.inr ⟨e, rfl⟩))
  rcases (show op = 0 ∨ op = 1 ∨ op = 2 ∨ op = 3 ∨ op = 4 ∨ op = 5 ∨ op = 6 ∨ op = 7 ∨ op = 8 ∨ op = 9 ∨ op = 10 ∨ op = 11 ∨ op = 12 ∨ op = 13 ∨ op = 14 ∨ op = 15 ∨ op = 16 ∨ op = 17 by omega) with rfl | rfl | rfl | rfl | rfl | rfl | rfl | rfl | rfl | rfl | rfl | rfl | rfl | rfl | rfl | rfl | rfl | rfl
  · exact rc_r (r' := r1) hB0 hg (fun e => absurd rfl e) (by simp only [doI]) rfl hl hj
  · refine rc_r (r' := { r1 with sk := r1.sk.set a ((M.ob.length : Int) + 1) }) (Mh := { M with ob := M.ob ++ [List.replicate (b + 1) 0] }) ⟨hB0.gl, hB0.st, fun i hi z hz hn => ?_, fun z hz => ?_⟩ hg (fun _ => put a ((M.ob.length : Int) + 1) (fun _ => .inr (by omega))) (by simp only [doI, hget, List.set_set]) rfl hl hj
    · have hi2 := h.rc_le hi
      have hz : z ∈ (M.ob ++ [List.replicate (b + 1) 0]).getD (i - 1) [] := hz
      rw [getD_app1 _ (by omega)] at hz
      exact .ob hi hz hn
    · have hz : z ∈ (M.ob ++ [List.replicate (b + 1) 0]).getD M.ob.length [] := hz
      rw [getD_app2] at hz
      exact List.eq_of_mem_replicate hz
  · have hb := (hB 2 rfl).2.2.1 rfl
    have e0 : doI { M with st := M.st.set g 2, gs := M.gs.set g r1 } g 2 a b c = (match slotOf M (r1.sk.getD b 0) c with | none => ({ M with st := M.st.set g 2, gs := M.gs.set g r1 }, 0, 5, true) | some z => ({ M with st := M.st.set g 2, gs := M.gs.set g { r1 with sk := r1.sk.set a z } }, z, 1, false)) := by
      simp only [doI, hget, List.set_set]; rfl
    rw [e0] at hj
    cases hz : slotOf M (r1.sk.getD b 0) c with
    | none =>
      rw [hz] at hj
      exact rc_r hB0 hg (fun e => absurd rfl e) rfl rfl hl hj
    | some z =>
      rw [hz] at hj
      have hv := slot_val h (val1 b hb) hz
      exact rc_r (r' := { r1 with sk := r1.sk.set a z }) hB0 hg (fun _ => put a z (fun hn => .inl (.ob (at1 b hb (by omega)) hv.2.2.2.2.1 hn))) rfl rfl hl hj
  · have ha := (hA 2 rfl).2.2.1 rfl
    have hc := (hC 2 rfl).2.2.1 rfl
    have e0 : doI { M with st := M.st.set g 2, gs := M.gs.set g r1 } g 3 a b c = (match slotOf M (r1.sk.getD a 0) b with | none => ({ M with st := M.st.set g 2, gs := M.gs.set g r1 }, 0, 5, true) | some _ => ({ M with st := M.st.set g 2, gs := M.gs.set g r1, ob := M.ob.set ((r1.sk.getD a 0).toNat - 1) ((M.ob.getD ((r1.sk.getD a 0).toNat - 1) []).set b (r1.sk.getD c 0)) }, 0, 1, false)) := by
      simp only [doI, hget]; rfl
    rw [e0] at hj
    cases hz : slotOf M (r1.sk.getD a 0) b with
    | none =>
      rw [hz] at hj
      exact rc_r hB0 hg (fun e => absurd rfl e) rfl rfl hl hj
    | some z =>
      rw [hz] at hj
      refine rc_r (Mh := { M with ob := M.ob.set ((r1.sk.getD a 0).toNat - 1) ((M.ob.getD ((r1.sk.getD a 0).toNat - 1) []).set b (r1.sk.getD c 0)) }) ⟨hB0.gl, hB0.st, fun i hi z hz2 hn => ?_, fun z hz2 => ?_⟩ hg (fun _ => sk1) rfl rfl hl hj
      · rcases mem_set_getD hz2 with e | ⟨e1, e2, e3⟩
        · exact .ob hi e hn
        · rcases List.mem_or_eq_of_mem_set e3 with e4 | e4
          · rw [e1] at e4
            exact .ob hi e4 hn
          · subst e4
            exact at1 c hc hn
      · rcases mem_set_getD hz2 with e | ⟨e1, e2, e3⟩
        · exact hB0.nw z e
        · omega
  · have hb := (hB 2 rfl).2.2.1 rfl
    exact rc_r (r' := { r1 with sk := r1.sk.set a (r1.sk.getD b 0) }) hB0 hg (fun _ => put a (r1.sk.getD b 0) (fun hn => .inl (at1 b hb hn))) (by simp only [doI, hget, List.set_set]) rfl hl hj
  · exact rc_r (r' := { r1 with sk := r1.sk.set a 0 }) hB0 hg (fun _ => put a 0 (fun hn => absurd rfl hn)) (by simp only [doI, hget, List.set_set]) rfl hl hj
  · have hb := (hB 3 rfl).2.2.2.1 rfl
    exact rc_r (r' := { r1 with sk := r1.sk.set a (M.gl.getD b 0) }) hB0 hg (fun _ => put a (M.gl.getD b 0) (fun hn => .inl (.gl (getD_mem 0 (by rw [h.gl]; exact hb)) hn))) (by simp only [doI, hget, List.set_set]) rfl hl hj
  · have hb := (hB 2 rfl).2.2.1 rfl
    exact rc_r (Mh := { M with gl := M.gl.set a (r1.sk.getD b 0) }) ⟨fun z hz hn => (List.mem_or_eq_of_mem_set hz).elim (fun e => .gl e hn) (fun e => by subst e; exact at1 b hb hn), hB0.st, hB0.ob, hB0.nw⟩ hg (fun _ => sk1) (by simp only [doI, hget]) rfl hl hj
  · have hb := (hB 2 rfl).2.2.1 rfl
    by_cases hf : M.st.length < 1024
    · have e0 : doI { M with st := M.st.set g 2, gs := M.gs.set g r1 } g 8 a b c = ({ M with st := M.st.set g 2 ++ [1], gs := M.gs.set g r1 ++ [fresh a (r1.sk.getD b 0)] }, ((M.st.set g 2).length : Int), 1, false) := by
        simp only [doI, hget]; rw [if_pos (by rw [List.length_set]; exact hf)]
      rw [e0] at hj
      refine rc_least (M := { M with st := (M.st.set g 2 ++ [1]).set g 1, gs := M.gs.set g r1 ++ [fresh a (r1.sk.getD b 0)] }) (fun i => Rc M i ∨ i = M.ob.length + 1) (fun z hz hn => .inl (.gl hz hn)) (fun k hk h5 z hz hn => ?_) (fun i hP z hz hn => ?_) hj
      · have hk : k < ((M.st.set g 2 ++ [1]).set g 1).length := hk
        have h5 : ((M.st.set g 2 ++ [1]).set g 1).getD k 0 ≠ 5 := h5
        have hz : z ∈ ((M.gs.set g r1 ++ [fresh a (r1.sk.getD b 0)]).getD k g0).sk := hz
        rw [List.set_append_left _ _ (by rw [List.length_set]; omega), List.set_set] at hk h5
        rw [List.length_append, List.length_set, List.length_singleton] at hk
        rcases Nat.lt_or_ge k M.st.length with e | e
        · rw [getD_app1 _ (by rw [List.length_set]; exact e)] at h5
          rw [getD_app1 _ (by rw [List.length_set]; omega)] at hz
          by_cases e3 : g = k
          · subst e3
            rw [getD_set_eq hg] at hz
            exact sk1 z hz hn
          · rw [getD_set_ne e3] at h5 hz
            exact .inl (.sk e h5 hz hn)
        · obtain rfl : k = M.gs.length := by omega
          have e4 : (M.gs.set g r1).length = M.gs.length := List.length_set
          rw [← e4, getD_app2] at hz
          have hz : z ∈ r1.sk.getD b 0 :: List.replicate 15 (0 : Int) := hz
          rcases List.mem_cons.1 hz with rfl | hz
          · exact .inl (at1 b hb hn)
          · exact absurd (List.eq_of_mem_replicate hz) hn
      · rcases hP with hP | rfl
        · exact .inl (.ob hP hz hn)
        · rw [Nat.add_sub_cancel] at hz
          exact absurd (hB0.nw z hz) hn
    · have e0 : doI { M with st := M.st.set g 2, gs := M.gs.set g r1 } g 8 a b c = ({ M with st := M.st.set g 2, gs := M.gs.set g r1 }, 0, 5, true) := by
        simp only [doI, hget]; rw [if_neg (by rw [List.length_set]; exact hf)]
      rw [e0] at hj
      exact rc_r hB0 hg (fun e => absurd rfl e) rfl rfl hl hj
  · exact rc_r hB0 hg (fun _ => sk1) (by simp only [doI]) rfl hl hj
  · exact rc_r (Mh := { M with tm := M.tm ++ [(M.ck + ((256 * b + c + 1 : Nat) : Int), (g : Int), (M.tn : Int))], tn := M.tn + 1 }) ⟨hB0.gl, hB0.st, hB0.ob, hB0.nw⟩ hg (fun _ => sk1) (by simp only [doI]) rfl hl hj
  · exact rc_r (Mh := { M with wz := Wt.upd M.wz a (M.wz a ++ [(g : Int)]) }) ⟨hB0.gl, hB0.st, hB0.ob, hB0.nw⟩ hg (fun _ => sk1) (by simp only [doI]) rfl hl hj
  · have ha := (hA 6 rfl).2.2.2.2.2.2 rfl
    cases hz : M.wz a with
    | nil =>
      have e0 : doI { M with st := M.st.set g 2, gs := M.gs.set g r1 } g 12 a b c = ({ M with st := M.st.set g 2, gs := M.gs.set g r1 }, -1, 1, false) := by
        simp only [doI, hz]
      rw [e0] at hj
      exact rc_r hB0 hg (fun _ => sk1) rfl rfl hl hj
    | cons x T =>
      obtain ⟨t, rfl, ht, h3⟩ := h.w3 a ha x (by rw [hz]; simp)
      have hne : t ≠ g := fun e => by subst e; rw [h1] at h3; exact absurd h3 (by decide)
      have e0 : doI { M with st := M.st.set g 2, gs := M.gs.set g r1 } g 12 a b c = ({ M with wz := Wt.upd M.wz a T, st := (M.st.set g 2).set t 1, gs := M.gs.set g r1 }, (t : Int), 1, false) := by
        simp only [doI, hz, Int.toNat_natCast]
      rw [e0, List.set_comm _ _ (fun e => hne e.symm)] at hj
      refine rc_r (Mh := { M with wz := Wt.upd M.wz a T, st := M.st.set t 1 }) ⟨hB0.gl, fun k hk h2 h5 => ?_, hB0.ob, hB0.nw⟩ hg (fun _ => sk1) rfl rfl (by show (M.st.set t 1).length = _; rw [List.length_set]; exact hl) hj
      have h2 : k < (M.st.set t 1).length := h2
      have h5 : (M.st.set t 1).getD k 0 ≠ 5 := h5
      rw [List.length_set] at h2
      refine ⟨h2, ?_, rfl⟩
      by_cases e : t = k
      · subst e; rw [h3]; decide
      · rw [getD_set_ne e] at h5; exact h5
  · exact rc_r hB0 hg (fun _ => sk1) (by simp only [doI]) rfl hl hj
  · exact rc_r (r' := { r1 with pc := a }) hB0 hg (fun _ => sk1) (by simp only [doI, hget, List.set_set]) rfl hl hj
  · by_cases he : (r1.sk.getD a 0 == r1.sk.getD b 0) = true
    · exact rc_r (r' := { r1 with pc := c }) hB0 hg (fun _ => sk1) (by simp only [doI, hget, List.set_set, he, if_true]) rfl hl hj
    · exact rc_r hB0 hg (fun _ => sk1) (by simp only [doI, hget, he]; rfl) rfl hl hj
  · exact rc_r (r' := { r1 with ct := 256 * a + b }) hB0 hg (fun _ => sk1) (by simp only [doI, hget, List.set_set]) rfl hl hj
  · by_cases he : 0 < r1.ct
    · exact rc_r (r' := { r1 with ct := r1.ct - 1, pc := a }) hB0 hg (fun _ => sk1) (by simp only [doI, hget, List.set_set, he, if_true]) rfl hl hj
    · exact rc_r hB0 hg (fun _ => sk1) (by simp only [doI, hget, he, if_false]) rfl hl hj
/-- What is made can be reached. -/
theorem rc_alloc (hP : Pg G fs) (h : Inv G fs M K) (hg : g < M.gs.length) (h1 : M.st.getD g 0 = 1) (hop : (insAt fs M g).1 = 1) : (outI fs M g).2.1 = M.ob.length + 1 ∧ Rc (step fs M g) (M.ob.length + 1) := by
  have hG0 := h.gor _ (getD_mem g0 hg)
  have hl := h.len
  obtain ⟨op, a, b, c, hx, hfit, _⟩ := next_fit (r := M.gs.getD g g0) hP hG0.f
  have e1 : op = 1 := by unfold insAt at hop; rw [hx] at hop; have : (op : Int) = 1 := hop; omega
  subst e1
  have ha := (hfit.2 2 a (.inl ⟨rfl, rfl⟩)).2.2.1 rfl
  have hout : outI fs M g = doI (doM M g) g 1 a b c := by unfold outI insAt; rw [hx]; simp only [Int.toNat_natCast]
  have hget : (doM M g).gs.getD g g0 = { M.gs.getD g g0 with pc := (M.gs.getD g g0).pc + 1 } := getD_set_eq hg
  have hsk := hG0.sk
  refine ⟨by rw [hout]; rfl, ?_⟩
  have e2 : M.ob.length + 1 = (((M.ob.length : Int) + 1)).toNat := by omega
  rw [e2]
  refine Rc.sk (g := g) ?_ ?_ ?_ (by omega)
  · unfold step; rw [hout]
    show g < ((M.st.set g 2).set g 1).length
    rw [List.length_set, List.length_set]; omega
  · unfold step; rw [hout]
    show ((M.st.set g 2).set g 1).getD g 0 ≠ 5
    rw [getD_set_eq (by rw [List.length_set]; omega)]; decide
  · unfold step; rw [hout]
    show (M.ob.length : Int) + 1 ∈ (((doM M g).gs.set g { (doM M g).gs.getD g g0 with sk := ((doM M g).gs.getD g g0).sk.set a ((M.ob.length : Int) + 1) }).getD g g0).sk
    rw [getD_set_eq (by show g < (M.gs.set g _).length; rw [List.length_set]; exact hg), hget]
    show (M.ob.length : Int) + 1 ∈ (M.gs.getD g g0).sk.set a ((M.ob.length : Int) + 1)
    exact List.mem_of_getElem? (i := a) (by rw [List.getElem?_set_self (by omega)])
theorem rc_tick (h : Inv G fs M K) {D T : List Sl} (hp : (D ++ T).Perm M.tm) {x : Int} {i : Nat} (hi : Rc (tickM M x D T) i) : Rc M i := by
  refine rc_least (M := tickM M x D T) (fun i => Rc M i) (fun z hz hn => .gl hz hn) (fun k hk h5 z hz hn => ?_) (fun i hP z hz hn => .ob hP hz hn) hi
  have hk : k < (wakeAll M.st (D.map (·.2.1))).length := hk
  have h5 : (wakeAll M.st (D.map (·.2.1))).getD k 0 ≠ 5 := h5
  rw [wakeAll_len] at hk
  refine .sk hk (fun e => h5 ?_) hz hn
  have pos : ∀ y ∈ D.map (·.2.1), (0 : Int) ≤ y := fun y hy => by
    obtain ⟨s, hs, rfl⟩ := List.mem_map.1 hy
    obtain ⟨t, e, _⟩ := h.t3 s (hp.mem_iff.1 (by simp [hs]))
    show 0 ≤ s.2.1
    omega
  rw [wakeAll_out _ _ _ pos (fun hm => by
    obtain ⟨s, hs, e2⟩ := List.mem_map.1 hm
    obtain ⟨t, e3, _, h3⟩ := h.t3 s (hp.mem_iff.1 (by simp [hs]))
    have e2 : s.2.1 = (k : Int) := e2
    obtain rfl : t = k := by omega
    rw [h3] at e
    exact absurd e (by decide))]
  exact e
end Md
end Go.Proofs.YtdhkakjiahkjnaaDoor
/- ModelReach's session: what was reached, what is gone. -/
namespace Go.Proofs.YtdhkakjiahkjnaaDoor
open Go.RowKit Go.Lib Fx Ho Gr Qu Rw
set_option linter.unusedVariables false
namespace Md
open Cd (Ins zi ca c4 Tk FRow IRow MayIs CntOk)
variable {W0 w w' : World} {fs : List (List Ins)} {p : Nat} {q q' : Pl} {M M' : Mo} {g n i G K lo : Nat} {F F' : Nat → Prop} {v : Value} {L zs : List Int} {x : Int}
/-- A tick, as a law sees it. -/
theorem ms_tick (h : Ms W0 w G fs p M K F) (hK : K ≤ 90000) (x : Int) (m : Nat) (hm : m = x.toNat) (hmb : m ≤ 500) : Calls Tryd.prog 9 #[.pointer (some ⟨p, 0, none⟩), .int .i64 x] w fun e w' => ∃ v D T, e = .returned v ∧ Ms W0 w' G fs p (tickM M (M.ck + m) D T) (K + 1) F ∧ Kept F w w' ∧ Pt.Ds M.tm D T ∧ (∀ s ∈ D, s.1 ≤ M.ck + m) ∧ (∀ s ∈ T, M.ck + m < s.1) ∧ Ints w' (fun k => w.heap.size ≤ k) v (D.map (·.2.1)) := by
  obtain ⟨⟨q, h1, h2⟩, h3, h4⟩ := h
  refine (tick_any h1 h3 hK x m hm (by omega)).mono fun e w' ⟨v, D, T, q', he, hT, hi, hd, hd1, hd2⟩ => ?_
  have hk0 := h3.ck0
  have hk1 := h3.ck1
  obtain ⟨k1, k2⟩ := ms_turn h1 h2 h4 hT (h3.tick hd.perm (x := M.ck + m) (by omega) (by omega))
  exact ⟨v, D, T, he, k1, k2, hd, hd1, hd2, hi.wider (fun k hk _ => hk.1)⟩
theorem doI_ob (M : Mo) (g op a b c : Nat) : M.ob.length ≤ (doI M g op a b c).1.ob.length := by
  unfold doI
  dsimp only
  split <;> (try split) <;> simp
theorem DoIs.few (hP : Pg G fs) (hI : Inv G fs M K) {cv : Value} {er : Int} (h : DoIs fs M x cv er M') : M'.gs.length ≤ M.gs.length + 1 ∧ M.ob.length ≤ M'.ob.length := by
  cases h with
  | yes g e1 e2 e3 =>
    refine ⟨(went_any hP hI e2 e3).few, ?_⟩
    show M.ob.length ≤ (outI fs M g).1.ob.length
    have := doI_ob (doM M g) g (insAt fs M g).1.toNat (insAt fs M g).2.1.toNat (insAt fs M g).2.2.1.toNat (insAt fs M g).2.2.2.toNat
    exact this
  | not g e1 e2 e3 => exact ⟨Nat.le_succ _, Nat.le_refl _⟩
  | none e1 => exact ⟨Nat.le_succ _, Nat.le_refl _⟩
theorem DoIs.rc (hP : Pg G fs) (hI : Inv G fs M K) {cv : Value} {er : Int} (h : DoIs fs M x cv er M') {j : Nat} (hj : Rc M' j) : Rc M j ∨ j = M.ob.length + 1 := by
  cases h with
  | yes g e1 e2 e3 => exact rc_step hP hI e2 e3 hj
  | not g e1 e2 e3 => exact .inl hj
  | none e1 => exact .inl hj
theorem rise_nodup {l : List Int} (h : l.Pairwise (· < ·)) : l.Nodup := h.imp (fun h e => by omega)
/-- What was reached, and what is gone; the model goes on. -/
structure Rl (W0 w : World) (G : Nat) (fs : List (List Ins)) (p : Nat) (M : Mo) (K n : Nat) (vg vw : Value) (Sw : Home) (zg zw : List Int) : Prop where
  ms : Ms W0 w G fs p M K (fun k => vg.ownBlock = some k ∨ Sw k)
  few : M.gs.length ≤ n
  gone : OffRow w vg zg
  rise : zg.Pairwise (· < ·)
  was : Ints w Sw vw zw
  wle : ∀ x ∈ zw, ∃ j : Nat, x = (j : Int) ∧ j ≤ M.ob.length
  out : ∀ x ∈ zg, ∃ j : Nat, x = (j : Int) ∧ j ≤ M.ob.length ∧ ¬ Rc M j
variable {vg vw vn : Value} {Sw Sn : Home} {zg zw zn : List Int}
theorem Rl.turn {K' n' : Nat} (h : Rl W0 w G fs p M K n vg vw Sw zg zw) (hm : Ms W0 w' G fs p M' K' (fun k => vg.ownBlock = some k ∨ Sw k)) (hk : Kept (fun k => vg.ownBlock = some k ∨ Sw k) w w') (hn : M'.gs.length ≤ n') (hob : M.ob.length ≤ M'.ob.length) (hr : ∀ j, Rc M' j → Rc M j ∨ j = M.ob.length + 1) : Rl W0 w' G fs p M' K' n' vg vw Sw zg zw := by
  obtain ⟨H, H', hw, hF⟩ := hk
  refine ⟨hm, hn, h.gone.wrote hw (fun k hk2 hh => (hF k (.inl hk2)).2 hh), h.rise, h.was.wrote hw (fun k hk2 hh => (hF k (.inr hk2)).2 hh), fun x hx => ?_, fun x hx => ?_⟩
  · obtain ⟨j, e, h1⟩ := h.wle x hx
    exact ⟨j, e, by omega⟩
  · obtain ⟨j, e, h1, h2⟩ := h.out x hx
    exact ⟨j, e, by omega, fun hj => (hr j hj).elim h2 (fun e2 => by omega)⟩
theorem Rl.below (h : Rl W0 w G fs p M K n vg vw Sw zg zw) (hb : Below w.heap.size w w') : Rl W0 w' G fs p M K n vg vw Sw zg zw :=
  h.turn (h.ms.below hb) ⟨fun _ => False, fun _ => False, Wrote.of_below hb, fun k hk => ⟨(h.ms.lt k hk).2, id⟩⟩ h.few (Nat.le_refl _) (fun j hj => .inl hj)
theorem rl_tick (h : Rl W0 w G fs p M K n vg vw Sw zg zw) (hK : K ≤ 90000) (x : Int) (hx : x ≤ 500) : Calls Tryd.prog 9 #[.pointer (some ⟨p, 0, none⟩), .int .i64 x] w fun e w' => ∃ v M', e = .returned v ∧ Rl W0 w' G fs p M' (K + 1) n vg vw Sw zg zw :=
  (ms_tick h.ms hK x x.toNat rfl (by omega)).mono fun e w' ⟨v, D, T, he, k1, k2, hd, _⟩ => ⟨v, _, he, h.turn k1 k2 h.few (Nat.le_refl _) (fun j hj => .inl (rc_tick h.ms.inv hd.perm hj))⟩
/-- What Do tells, and what was made can be reached. -/
theorem rl_do (h : Rl W0 w G fs p M K n vg vw Sw zg zw) (hP : Pg G fs) (hK : K < 90000) (hn : n < 1000) (x : Int) : Calls Tryd.prog 6 #[.pointer (some ⟨p, 0, none⟩), .int .i64 x] w fun e w' => ∃ (g f pc op v : Int) (ft : Bool) (er : Int) (M' : Mo), e = .returned (.tuple #[.agg #[.int .i64 g, .int .i64 f, .int .i64 pc, .int .i64 op, .int .i64 v, .bool ft], .int .i64 er]) ∧ Rl W0 w' G fs p M' (K + 1) (n + 1) vg vw Sw zg zw ∧ (er = 0 → op = 1 → ∃ j : Nat, v = (j : Int) ∧ Rc M' j) :=
  (ms_do h.ms hP hK (by have := h.few; omega) x).mono fun e w' ⟨cv, er, M', he, hd, k1, k2⟩ => by
    obtain ⟨f1, f2⟩ := hd.few hP h.ms.inv
    have hr := h.turn (n' := n + 1) k1 k2 (by have := h.few; omega) f2 (fun j hj => hd.rc hP h.ms.inv hj)
    cases hd with
    | yes g e1 e2 e3 => exact ⟨_, _, _, _, _, _, _, _, he, hr, fun _ hop => by
        obtain ⟨a1, a2⟩ := rc_alloc hP h.ms.inv e2 e3 hop
        exact ⟨_, by rw [a1]; rfl, a2⟩⟩
    | not g e1 e2 e3 => exact ⟨_, _, _, _, _, _, _, _, he, hr, fun e => absurd e (by decide)⟩
    | none e1 => exact ⟨_, _, _, _, _, _, _, _, he, hr, fun e => absurd e (by decide)⟩
/-- Do, with a block beside that was made ahead of it: it is as it was, and may be written. -/
theorem rl_do2 {w1 : World} (h : Rl W0 w G fs p M K n vg vw Sw zg zw) (hb : Below w.heap.size w w1) {N : Nat} (hN : w.heap.size ≤ N ∧ N < w1.heap.size) (hP : Pg G fs) (hK : K < 90000) (hn : n < 1000) (x : Int) : Calls Tryd.prog 6 #[.pointer (some ⟨p, 0, none⟩), .int .i64 x] w1 fun e w' => ∃ (g f pc op v : Int) (ft : Bool) (er : Int) (M' : Mo), e = .returned (.tuple #[.agg #[.int .i64 g, .int .i64 f, .int .i64 pc, .int .i64 op, .int .i64 v, .bool ft], .int .i64 er]) ∧ w'.heap[N]? = w1.heap[N]? ∧ (∀ W', Wrote (fun k => k = N) w' (fun k => k = N) W' → Rl W0 W' G fs p M' (K + 1) (n + 1) vg vw Sw zg zw) ∧ (er = 0 → op = 1 → ∃ j : Nat, v = (j : Int) ∧ Rc M' j) :=
  (ms_do (h.ms.more hb) hP hK (by have := h.few; omega) x).mono fun e w' ⟨cv, er, M', he, hd, k1, k2⟩ => by
    obtain ⟨f1, f2⟩ := hd.few hP h.ms.inv
    have hNk := k2.block (k := N) (.inr hN)
    have h1 := h.below hb
    have hr : ∀ W', Wrote (fun k => k = N) w' (fun k => k = N) W' → Rl W0 W' G fs p M' (K + 1) (n + 1) vg vw Sw zg zw := fun W' hw => by
      obtain ⟨H, H', hkw, hF⟩ := k2
      have hlt := h.ms.lt
      refine h1.turn (n' := n + 1) ((k1.wrote hw (fun k hk => .inr (by have hk : k = N := hk; subst hk; exact hN))).sub (fun k hk => .inl hk)) ⟨fun k => H k ∨ k = N, fun _ => False, ⟨hw.os.trans hkw.os, hw.tape.trans hkw.tape, hw.output.trans hkw.output, Nat.le_trans hkw.size hw.size, fun k hk hn => (hw.block k (Nat.lt_of_lt_of_le hk hkw.size) (fun e => hn (.inr e))).trans (hkw.block k hk (fun e => hn (.inl e))), fun k h => h.elim⟩, fun k hk => ⟨(hF k (.inl hk)).1, fun hh => hh.elim (hF k (.inl hk)).2 (fun e => by have := (hlt k hk).2; omega)⟩⟩ (by have := h.few; omega) f2 (fun j hj => hd.rc hP h.ms.inv hj)
    cases hd with
    | yes g e1 e2 e3 => exact ⟨_, _, _, _, _, _, _, _, he, hNk, hr, fun _ hop => by
        obtain ⟨a1, a2⟩ := rc_alloc hP h.ms.inv e2 e3 hop
        exact ⟨_, by rw [a1]; rfl, a2⟩⟩
    | not g e1 e2 e3 => exact ⟨_, _, _, _, _, _, _, _, he, hNk, hr, fun e => absurd e (by decide)⟩
    | none e1 => exact ⟨_, _, _, _, _, _, _, _, he, hNk, hr, fun e => absurd e (by decide)⟩
theorem step_call2' {P : Program} {ops : Array Oper} {o : Oper} {a : Act} {w : World} {K : Act → World → Prop} {Q : Exit → Act → World → Prop} {E : Prop} {post : Ending → World → Prop} (hgd : o.guard = none) (f : Nat) (x1 x2 : Operand) {ts : Array TypeId} (ho : o.op = .call { callee := .value (.func f), args := #[x1, x2], argTypes := ts }) (v1 v2 : Value) (ha1 : a.eval x1 = v1) (ha2 : a.eval x2 = v2) (hcf : (callFunc f #[v1, v2]).run P w = .ok (.enter f #[v1, v2]) w)
    (hc : Calls P f #[v1, v2] w post) (hK : ∀ e w', post e w' → ∃ v, e = .returned v ∧ K (a.put o.dst v) w') : if Region.wanted o (yielded ops a.tmps) = true then Oper.wp P o a w K Q else E :=
  step_call hgd f #[x1, x2] ho #[v1, v2] (by simp [ha1, ha2]) hcf hc hK
/-- A commit is stored. -/
theorem six_h {N : Nat} {y0 y1 y2 y3 y4 y5 x0 x1 x2 x3 x4 x5 : Value} (hk : w.heap[N]? = some (.cells #[y0, y1, y2, y3, y4, y5] 31 (0, 0))) : ((((((w.setCell ⟨N, 0, none⟩ x0).setCell ⟨N, 1, none⟩ x1).setCell ⟨N, 2, none⟩ x2).setCell ⟨N, 3, none⟩ x3).setCell ⟨N, 4, none⟩ x4).setCell ⟨N, 5, none⟩ x5).heap[N]? = some (.cells #[x0, x1, x2, x3, x4, x5] 31 (0, 0)) ∧ Wrote (fun k => k = N) w (fun k => k = N) ((((((w.setCell ⟨N, 0, none⟩ x0).setCell ⟨N, 1, none⟩ x1).setCell ⟨N, 2, none⟩ x2).setCell ⟨N, 3, none⟩ x3).setCell ⟨N, 4, none⟩ x4).setCell ⟨N, 5, none⟩ x5) := by
  have w0 : ∀ (V : World) (j : Nat) (z : Value), Wrote (fun k => k = N) V (fun k => k = N) (V.setCell ⟨N, j, none⟩ z) := fun V j z => wrote_setCell (a := ⟨N, j, none⟩) rfl rfl rfl rfl rfl
  exact ⟨heap_setCell_same _ N 5 _ _ x5 (heap_setCell_same _ N 4 _ _ x4 (heap_setCell_same _ N 3 _ _ x3 (heap_setCell_same _ N 2 _ _ x2 (heap_setCell_same _ N 1 _ _ x1 (heap_setCell_same w N 0 _ _ x0 hk))))), (((((w0 w 0 x0).trans (w0 _ 1 x1)).trans (w0 _ 2 x2)).trans (w0 _ 3 x3)).trans (w0 _ 4 x4)).trans (w0 _ 5 x5)⟩
/-- .. and what is reached now. -/
structure Rn (W0 w : World) (G : Nat) (fs : List (List Ins)) (p : Nat) (M : Mo) (K n : Nat) (vg vw vn : Value) (Sw Sn : Home) (zg zw zn : List Int) : Prop where
  ms : Ms W0 w G fs p M K (fun k => vg.ownBlock = some k ∨ Sw k ∨ Sn k)
  few : M.gs.length ≤ n
  gone : OffRow w vg zg
  rise : zg.Pairwise (· < ·)
  was : Ints w Sw vw zw
  now : Ints w Sn vn zn
  wle : ∀ x ∈ zw, ∃ j : Nat, x = (j : Int) ∧ j ≤ M.ob.length
  out : ∀ x ∈ zg, ∃ j : Nat, x = (j : Int) ∧ j ≤ M.ob.length ∧ ¬ Rc M j
  nw : IsReach M zn
theorem rl_reach (h : Rl W0 w G fs p M K n vg vw Sw zg zw) (hK : K ≤ 90000) : Calls Tryd.prog 20 #[.pointer (some ⟨p, 0, none⟩)] w fun e w' => ∃ vn Sn zn, e = .returned vn ∧ Rn W0 w' G fs p M K n vg vw vn Sw Sn zg zw zn ∧ Below w.heap.size w w' :=
  (ms_reach h.ms hK).mono fun e w' ⟨v, zs, he, hb, hi, hr⟩ => by
    have h2 := h.below hb
    have hm := h.ms.more hb
    refine ⟨v, fun k => w.heap.size ≤ k ∧ k < w'.heap.size, zs, he, ⟨hm.sub (fun k hk => ?_), h.few, h2.gone, h2.rise, h2.was, hi.wider (fun k hk hk2 => ⟨hk, hk2⟩), h2.wle, h2.out, hr⟩, hb⟩
    rcases hk with e | e | e
    · exact .inl (.inl e)
    · exact .inl (.inr e)
    · exact .inr e
theorem Rn.below (h : Rn W0 w G fs p M K n vg vw vn Sw Sn zg zw zn) (hb : Below w.heap.size w w') : Rn W0 w' G fs p M K n vg vw vn Sw Sn zg zw zn :=
  ⟨h.ms.below hb, h.few, h.gone.wrote (H := fun _ => False) (Wrote.of_below hb) (fun _ _ h => h), h.rise, h.was.below hb, h.now.below hb, h.wle, h.out, h.nw⟩
theorem Rn.small (h : Rn W0 w G fs p M K n vg vw vn Sw Sn zg zw zn) : zg.length ≤ K + 1 := by
  have := pig (M.ob.length + 1) zg (rise_nodup h.rise) (fun x hx => by obtain ⟨j, e, h1, _⟩ := h.out x hx; exact ⟨j, e, by omega⟩)
  have := h.ms.inv.ob
  omega
/-- What is gone is not reached now. -/
theorem Rn.apart (h : Rn W0 w G fs p M K n vg vw vn Sw Sn zg zw zn) {x : Int} (hx : x ∈ zn) : x ∉ zg := fun hg => by
  obtain ⟨j, e, _, h2⟩ := h.out x hg
  obtain ⟨i, e2, h3⟩ := (h.nw.mem x).1 hx
  obtain rfl : i = j := by omega
  exact h2 h3
/-- The round's end: what is reached now is what was. -/
theorem Rn.next (h : Rn W0 w G fs p M K n vg vw vn Sw Sn zg zw zn) : Rl W0 w G fs p M K n vg vn Sn zg zn :=
  ⟨h.ms.sub (fun k hk => hk.imp (fun e => e) .inr), h.few, h.gone, h.rise, h.now, fun x hx => by
    obtain ⟨j, e, hj⟩ := (h.nw.mem x).1 hx
    exact ⟨j, e, (h.ms.inv.rc_le hj).2⟩, h.out⟩
theorem rl_first (h : Ms W0 w G fs p (mo0 G) 0 (fun k => k ∈ [])) : Calls Tryd.prog 20 #[.pointer (some ⟨p, 0, none⟩)] w fun e w' => ∃ vn Sn zn, e = .returned vn ∧ Rl W0 w' G fs p (mo0 G) 0 1 (.slice none 0 0) vn Sn [] zn :=
  (ms_reach h (by omega)).mono fun e w' ⟨v, zs, he, hb, hi, hr⟩ => by
    refine ⟨v, fun k => w.heap.size ≤ k ∧ k < w'.heap.size, zs, he, (h.more hb).sub (fun k hk => ?_), Nat.le_refl _, offrow_nil _, List.Pairwise.nil, hi.wider (fun k hk hk2 => ⟨hk, hk2⟩), fun x hx => ?_, fun x hx => by cases hx⟩
    · rcases hk with e | e
      · cases e
      · exact .inr e
    · obtain ⟨j, e, hj⟩ := (hr.mem x).1 hx
      exact ⟨j, e, (h.inv.rc_le hj).2⟩
end Md
end Go.Proofs.YtdhkakjiahkjnaaDoor
/- ModelFaults: its program, step by step. -/
namespace Go.Proofs.YtdhkakjiahkjnaaDoor
open Go.RowKit Go.Lib Fx Ho Gr
set_option linter.unusedVariables false
namespace Md
open Cd (Ins zi ca c4 okI hasB bnd kd okAt FRow)
variable {k i : Nat}
def inF (ld : Bool) (i : Nat) : Ins := if ld then (2, 2, 1, (i : Int)) else (3, 1, (i : Int), 1)
def fsF (ld : Bool) (i k : Nat) : List (List Ins) := [[(8, 1, 0, 0), (1, 1, (k : Int), 0), inF ld i, (2, 3, 9, 0)], [(5, 0, 0, 0)]]
theorem two_cases {P : Nat → Prop} (h0 : P 0) (h1 : P 1) : ∀ i, i < 2 → P i := fun i hi => by
  rcases (show i = 0 ∨ i = 1 by omega) with rfl | rfl
  · exact h0
  · exact h1
theorem pgF (ld : Bool) (hi : i < 256) (hk : k < 256) : Pg 0 (fsF ld i k) := by
  refine ⟨by show 2 ≤ 16; omega, by show 1 ≤ 2; omega, by omega, two_cases ⟨by show 1 ≤ 4; omega, by show 4 ≤ 64; omega⟩ ⟨by show 1 ≤ 1; omega, by show 1 ≤ 64; omega⟩, two_cases (fun j hj => ?_) (fun j hj => ?_)⟩
  · have hj : j < 4 := hj
    rcases (show j = 0 ∨ j = 1 ∨ j = 2 ∨ j = 3 by omega) with rfl | rfl | rfl | rfl
    · rfl
    · show okI 0 2 4 (1, 1, (k : Int), 0) = true
      simp [okI, hasB, bnd, kd, Cd.kinds]; omega
    · show okI 0 2 4 (inF ld i) = true
      cases ld
      · simp [inF, okI, hasB, bnd, kd, Cd.kinds]; omega
      · simp [inF, okI, hasB, bnd, kd, Cd.kinds]; omega
    · rfl
  · have hj : j < 1 := hj
    obtain rfl : j = 0 := by omega
    rfl
def mF1 : Mo := ⟨[⟨0, 1, 0, List.replicate 16 0⟩, fresh 1 0], [1, 1], [], [], 0, [], 0, fun _ => []⟩
def mF2 (k : Nat) : Mo := ⟨[⟨0, 2, 0, 0 :: 1 :: List.replicate 14 0⟩, fresh 1 0], [1, 1], [], [List.replicate (k + 1) 0], 0, [], 0, fun _ => []⟩
theorem stF1 (ld : Bool) : step (fsF ld i k) (mo0 0) 0 = mF1 := rfl
theorem stF2 (ld : Bool) : step (fsF ld i k) mF1 0 = mF2 k := rfl
theorem insF (ld : Bool) : insAt (fsF ld i k) (mF2 k) 0 = inF ld i := rfl
theorem slotF : slotOf (doM (mF2 k) 0) 1 i = if i ≤ k then some 0 else none := by
  show (List.replicate (k + 1) (0 : Int))[i]? = _
  rw [List.getElem?_replicate]
  by_cases h : i ≤ k
  · rw [if_pos (by omega), if_pos h]
  · rw [if_neg (by omega), if_neg h]
theorem badF (ld : Bool) (h : k < i) : (∃ op, comM (fsF ld i k) (mF2 k) 0 = comV 0 0 2 op 0 true) ∧ (step (fsF ld i k) (mF2 k) 0).st = [5, 1] ∧ (step (fsF ld i k) (mF2 k) 0).ob.length = 1 ∧ (step (fsF ld i k) (mF2 k) 0).gl = [] ∧ (step (fsF ld i k) (mF2 k) 0).gs.getD 1 g0 = fresh 1 0 := by
  have hs := slotF (k := k) (i := i)
  rw [if_neg (by omega)] at hs
  have ho : outI (fsF ld i k) (mF2 k) 0 = (doM (mF2 k) 0, 0, 5, true) := by
    unfold outI
    rw [insF]
    cases ld
    · show (match slotOf (doM (mF2 k) 0) 1 i with | none => (doM (mF2 k) 0, (0 : Int), (5 : Int), true) | some _ => _) = _
      rw [hs]
    · show (match slotOf (doM (mF2 k) 0) 1 i with | none => (doM (mF2 k) 0, (0 : Int), (5 : Int), true) | some z => _) = _
      rw [hs]
  refine ⟨⟨_, by unfold comM; rw [ho]; rfl⟩, ?_, ?_, ?_, ?_⟩ <;> (unfold step; rw [ho]; rfl)
theorem goodF (ld : Bool) (h : i ≤ k) : (∃ op, comM (fsF ld i k) (mF2 k) 0 = comV 0 0 2 op 0 false) ∧ (step (fsF ld i k) (mF2 k) 0).st = [1, 1] ∧ (step (fsF ld i k) (mF2 k) 0).ob.length = 1 ∧ comM (fsF ld i k) (step (fsF ld i k) (mF2 k) 0) 0 = comV 0 0 3 2 0 true ∧ (step (fsF ld i k) (step (fsF ld i k) (mF2 k) 0) 0).st = [5, 1] ∧ (step (fsF ld i k) (step (fsF ld i k) (mF2 k) 0) 0).ob.length = 1 ∧ (step (fsF ld i k) (mF2 k) 0).gs.length = 2 := by
  have hs := slotF (k := k) (i := i)
  rw [if_pos h] at hs
  cases ld
  · have ho : outI (fsF false i k) (mF2 k) 0 = ({ doM (mF2 k) 0 with ob := [(List.replicate (k + 1) 0).set i 1] }, 0, 1, false) := by
      unfold outI
      rw [insF]
      show (match slotOf (doM (mF2 k) 0) 1 i with | none => (doM (mF2 k) 0, (0 : Int), (5 : Int), true) | some _ => _) = _
      rw [hs]; rfl
    have hst : step (fsF false i k) (mF2 k) 0 = ⟨[⟨0, 3, 0, 0 :: 1 :: List.replicate 14 0⟩, fresh 1 0], [1, 1], [], [(List.replicate (k + 1) 0).set i 1], 0, [], 0, fun _ => []⟩ := by unfold step; rw [ho]; rfl
    rw [hst]
    exact ⟨⟨_, by unfold comM; rw [ho]; rfl⟩, rfl, rfl, rfl, rfl, rfl, rfl⟩
  · have ho : outI (fsF true i k) (mF2 k) 0 = (doM (mF2 k) 0, 0, 1, false) := by
      unfold outI
      rw [insF]
      show (match slotOf (doM (mF2 k) 0) 1 i with | none => (doM (mF2 k) 0, (0 : Int), (5 : Int), true) | some z => ({ doM (mF2 k) 0 with gs := (doM (mF2 k) 0).gs.set 0 { (doM (mF2 k) 0).gs.getD 0 g0 with sk := ((doM (mF2 k) 0).gs.getD 0 g0).sk.set 2 z } }, z, 1, false)) = _
      rw [hs]; rfl
    have hst : step (fsF true i k) (mF2 k) 0 = ⟨[⟨0, 3, 0, 0 :: 1 :: List.replicate 14 0⟩, fresh 1 0], [1, 1], [], [List.replicate (k + 1) 0], 0, [], 0, fun _ => []⟩ := by unfold step; rw [ho]; rfl
    rw [hst]
    exact ⟨⟨_, by unfold comM; rw [ho]; rfl⟩, rfl, rfl, rfl, rfl, rfl, rfl⟩
/-- Nothing can be reached where all that is alive has nothing. -/
theorem rcF {M : Mo} (h1 : M.st = [5, 1]) (h2 : M.gl = []) (h3 : M.gs.getD 1 g0 = fresh 1 0) : ∀ i, ¬ Rc M i := fun i h => by
  induction h with
  | gl a b => rw [h2] at a; cases a
  | sk a b c d =>
    rename_i g z
    rw [h1] at a b
    have a : g < 2 := a
    rcases (show g = 0 ∨ g = 1 by omega) with rfl | rfl
    · exact b rfl
    · rw [h3] at c
      exact d (List.eq_of_mem_replicate (n := 16) c)
  | ob _ _ _ ih => exact ih
/-- A program of two functions that lies in three blocks. -/
theorem frow2 (W : World) (l1 l2 : List Ins) (n1 n2 : Nat) (h1 : l1.length = n1) (h2 : l2.length = n2) (hn : n1 ≤ 1000 ∧ n2 ≤ 1000) : FRow (((W.alloc (.cells (ca l1).toArray 26)).alloc (.cells (ca l2).toArray 26)).alloc (.cells #[.slice (some ⟨W.heap.size, 0, none⟩) n1 n1, .slice (some ⟨W.heap.size + 1, 0, none⟩) n2 n2] 24)) (.slice (some ⟨W.heap.size + 2, 0, none⟩) 2 2) [l1, l2] ∧ Below W.heap.size W (((W.alloc (.cells (ca l1).toArray 26)).alloc (.cells (ca l2).toArray 26)).alloc (.cells #[.slice (some ⟨W.heap.size, 0, none⟩) n1 n1, .slice (some ⟨W.heap.size + 1, 0, none⟩) n2 n2] 24)) := by
  subst h1 h2
  have k1 := heap_alloc_new W (.cells (ca l1).toArray 26)
  have k2 := heap_alloc_new (W.alloc (.cells (ca l1).toArray 26)) (.cells (ca l2).toArray 26)
  have k3 := heap_alloc_new ((W.alloc (.cells (ca l1).toArray 26)).alloc (.cells (ca l2).toArray 26)) (.cells #[.slice (some ⟨W.heap.size, 0, none⟩) l1.length l1.length, .slice (some ⟨W.heap.size + 1, 0, none⟩) l2.length l2.length] 24)
  have b2 := below_alloc (Below.refl _ (W.alloc (.cells (ca l1).toArray 26))) (.cells (ca l2).toArray 26)
  have b3 := below_alloc (Below.refl _ ((W.alloc (.cells (ca l1).toArray 26)).alloc (.cells (ca l2).toArray 26))) (.cells #[.slice (some ⟨W.heap.size, 0, none⟩) l1.length l1.length, .slice (some ⟨W.heap.size + 1, 0, none⟩) l2.length l2.length] 24)
  have k2' := (b3.block _ (block_lt k2)).trans k2
  have k1' := (b3.block _ (by have := block_lt k1; have := b2.size; omega)).trans ((b2.block _ (block_lt k1)).trans k1)
  simp only [s_alloc] at k2' k3
  refine ⟨frow_lit (vs := [.slice (some ⟨W.heap.size, 0, none⟩) l1.length l1.length, .slice (some ⟨W.heap.size + 1, 0, none⟩) l2.length l2.length]) (fs := [l1, l2]) k3 rfl (by show 2 ≤ 1000; omega) (two_cases (irow_lit (l := l1) k1' hn.1) (irow_lit (l := l2) k2' hn.2)), below_alloc (below_alloc (below_alloc (Below.refl _ _) _) _) _⟩
end Md
end Go.Proofs.YtdhkakjiahkjnaaDoor
/- Programs that a law builds piece by piece; a law's view of a few calls more. -/
namespace Go.Proofs.YtdhkakjiahkjnaaDoor
open Go.RowKit Go.Lib Fx Ho Gr
set_option linter.unusedVariables false
namespace Md
open Cd (Ins zi ca c4 okI hasB bnd kd okAt FRow IRow irow_grow eltIns ca_len)
variable {W0 w w' wr W : World} {fs : List (List Ins)} {p G K k i n : Nat} {v v8 : Value} {L l : List Ins} {M : Mo} {F : Nat → Prop}
theorem ca_app (A B : List Ins) : ca (A ++ B) = ca A ++ ca B := List.flatMap_append
/-- Instructions in a row that grows, made since w. -/
structure Pw (w wr : World) (v : Value) (L : List Ins) : Prop where
  row : GRow 4 wr v L.length (ca L)
  low : ∀ k, v.ownBlock = some k → w.heap.size ≤ k
  bel : Below w.heap.size w wr
theorem pw_start (w : World) : Pw w w (.slice none 0 0) [] := ⟨grow_nil 4 w, fun k hk => (by cases hk), Below.refl _ _⟩
theorem src_lit (W : World) (l : List Ins) (h0 : 0 < l.length) (h1 : l.length ≤ 1000) : Src Tryd.prog 4 24 (.slice (some ⟨W.heap.size, 0, none⟩) l.length l.length) l.length (ca l) (W.alloc (.cells (ca l).toArray 26)) :=
  src_irow (irow_lit (heap_alloc_new W (.cells (ca l).toArray 26)) h1) h0 ⟨_, _, rfl⟩
theorem Pw.more (h : Pw w wr v L) {W6 w8 : World} (hb : Below wr.heap.size wr W6) (g1 : GRow 4 w8 v8 (L.length + l.length) (ca L ++ ca l)) (g2 : Wrote (fun k => v.ownBlock = some k) W6 (fun k => v8.ownBlock = some k) w8) : Pw w w8 v8 (L ++ l) := by
  have hsz := h.bel.size
  refine ⟨by rw [List.length_append, ca_app]; exact g1, fun k hk => (g2.home k hk).elim (h.low k) (fun e => by have := hb.size; omega), (h.bel.trans (hb.mono hsz)).trans (Cd.below_of_w g2 h.low (Nat.le_trans hsz hb.size))⟩
theorem Pw.below (h : Pw w wr v L) (hb : Below wr.heap.size wr w') : Pw w w' v L := ⟨h.row.below hb, h.low, h.bel.trans (hb.mono h.bel.size)⟩
/-- It is a program's only function. -/
theorem Pw.prog (h : Pw w wr v L) : FRow (wr.alloc (.cells #[v] 24)) (.slice (some ⟨wr.heap.size, 0, none⟩) 1 1) [L] ∧ Below w.heap.size w (wr.alloc (.cells #[v] 24)) := by
  have hb := below_alloc (Below.refl wr.heap.size wr) (.cells #[v] 24)
  refine ⟨frow_lit (vs := [v]) (fs := [L]) (heap_alloc_new wr _) rfl (by show 1 ≤ 1000; omega) (fun i hi => ?_), h.bel.trans (hb.mono h.bel.size)⟩
  obtain rfl : i = 0 := by have hi : i < 1 := hi; omega
  exact irow_grow (h.row.below hb)
/-- It is the first of two. -/
theorem Pw.prog2 (h : Pw w wr v L) (l2 : List Ins) (n2 : Nat) (h2 : l2.length = n2) (hn : n2 ≤ 1000) : FRow ((wr.alloc (.cells (ca l2).toArray 26)).alloc (.cells #[v, .slice (some ⟨wr.heap.size, 0, none⟩) n2 n2] 24)) (.slice (some ⟨wr.heap.size + 1, 0, none⟩) 2 2) [L, l2] ∧ Below w.heap.size w ((wr.alloc (.cells (ca l2).toArray 26)).alloc (.cells #[v, .slice (some ⟨wr.heap.size, 0, none⟩) n2 n2] 24)) := by
  subst h2
  have k1 := heap_alloc_new wr (.cells (ca l2).toArray 26)
  have b1 := below_alloc (Below.refl wr.heap.size wr) (.cells (ca l2).toArray 26)
  have b2 := below_alloc (Below.refl _ (wr.alloc (.cells (ca l2).toArray 26))) (.cells #[v, .slice (some ⟨wr.heap.size, 0, none⟩) l2.length l2.length] 24)
  have k2 := heap_alloc_new (wr.alloc (.cells (ca l2).toArray 26)) (.cells #[v, .slice (some ⟨wr.heap.size, 0, none⟩) l2.length l2.length] 24)
  have k1' := (b2.block _ (block_lt k1)).trans k1
  rw [s_alloc] at k2
  refine ⟨frow_lit (vs := [v, .slice (some ⟨wr.heap.size, 0, none⟩) l2.length l2.length]) (fs := [L, l2]) k2 rfl (by show 2 ≤ 1000; omega) (two_cases (irow_grow ((h.row.below b1).below b2)) (irow_lit (l := l2) k1' hn)), h.bel.trans ((b1.trans (b2.mono b1.size)).mono h.bel.size)⟩
/-- Two lists without doubles, of the same members, are as long. -/
theorem len_of_mem {l1 l2 : List Int} (h1 : l1.Nodup) (h2 : l2.Nodup) (h : ∀ x, x ∈ l1 ↔ x ∈ l2) : l1.length = l2.length := ((List.perm_ext_iff_of_nodup h1 h2).2 h).length_eq
/-- Pg of one function. -/
theorem pg_one (hG : G ≤ 32) (h0 : 1 ≤ L.length) (h64 : L.length ≤ 64) (hok : ∀ x ∈ L, okI G 1 L.length x = true) : Pg G [L] := by
  refine ⟨by show 1 ≤ 16; omega, by show 1 ≤ 1; omega, hG, fun i hi => ?_, fun i hi j hj => ?_⟩
  · obtain rfl : i = 0 := by have hi : i < 1 := hi; omega
    exact ⟨h0, h64⟩
  · obtain rfl : i = 0 := by have hi : i < 1 := hi; omega
    exact hok _ (getD_mem zi hj)
theorem pg_two {l2 : List Ins} (hG : G ≤ 32) (h0 : 1 ≤ L.length) (h64 : L.length ≤ 64) (h2 : 1 ≤ l2.length ∧ l2.length ≤ 64) (hok : ∀ x ∈ L, okI G 2 L.length x = true) (hok2 : ∀ x ∈ l2, okI G 2 l2.length x = true) : Pg G [L, l2] := by
  refine ⟨by show 2 ≤ 16; omega, by show 1 ≤ 2; omega, hG, two_cases ⟨h0, h64⟩ h2, two_cases (fun j hj => hok _ (getD_mem zi hj)) (fun j hj => hok2 _ (getD_mem zi hj))⟩
end Md
end Go.Proofs.YtdhkakjiahkjnaaDoor
/- ModelLists: its program, step by step. -/
namespace Go.Proofs.YtdhkakjiahkjnaaDoor
open Go.RowKit Go.Lib Fx Ho Gr
set_option linter.unusedVariables false
namespace Md
open Cd (Ins zi ca c4 okI hasB bnd kd okAt)
variable {k i r j : Nat}
def l3 : List Ins := [(1, 1, 1, 0), (3, 1, 0, 0), (4, 0, 1, 0)]
def lL : Nat → List Ins
  | 0 => []
  | i + 1 => lL i ++ l3
def l2L : List Ins := [(5, 1, 0, 0), (5, 0, 0, 0)]
theorem lL_len : ∀ i, (lL i).length = 3 * i
  | 0 => rfl
  | i + 1 => by unfold lL; rw [List.length_append, lL_len i]; show 3 * i + 3 = _; omega
theorem lL_get (hr : r < 3) : ∀ k, i < k → (lL k).getD (3 * i + r) zi = l3.getD r zi
  | 0, h => by omega
  | k + 1, h => by
    unfold lL
    by_cases e : i < k
    · rw [getD_app1 _ (by rw [lL_len]; omega)]
      exact lL_get hr k e
    · obtain rfl : i = k := by omega
      rw [List.getD_eq_getElem?_getD, List.getElem?_append_right (by rw [lL_len]; omega), lL_len, show 3 * i + r - 3 * i = r by omega, ← List.getD_eq_getElem?_getD]
theorem lL_mem : ∀ k x, x ∈ lL k → x ∈ l3
  | 0, x, h => by cases h
  | k + 1, x, h => (List.mem_append.1 h).elim (lL_mem k x) (fun e => e)
def fsL (k : Nat) : List (List Ins) := [lL k ++ l2L]
theorem pgL (h1 : 1 ≤ k) (h20 : k ≤ 20) : Pg 0 (fsL k) := by
  have hl : (lL k ++ l2L).length = 3 * k + 2 := by rw [List.length_append, lL_len]; rfl
  refine pg_one (by omega) (by omega) (by omega) (fun x hx => ?_)
  rw [hl]
  rcases List.mem_append.1 hx with e | e
  · have := lL_mem k x e
    simp only [l3, List.mem_cons, List.not_mem_nil, or_false] at this
    rcases this with rfl | rfl | rfl <;> simp [okI, hasB, bnd, kd, Cd.kinds]
  · simp only [l2L, List.mem_cons, List.not_mem_nil, or_false] at e
    rcases e with rfl | rfl <;> simp [okI, hasB, bnd, kd, Cd.kinds]
/-- So many nodes, each of which names the one before. -/
def obL (i : Nat) : List (List Int) := (List.range i).map (fun x : Nat => [(x : Int), 0])
theorem obL_len (i : Nat) : (obL i).length = i := by unfold obL; rw [List.length_map, List.length_range]
theorem obL_get (h : j < i) : (obL i).getD j [] = [(j : Int), 0] := by
  unfold obL
  rw [List.getD_eq_getElem?_getD, List.getElem?_map, List.getElem?_range h]; rfl
theorem obL_next (i : Nat) : obL (i + 1) = obL i ++ [[(i : Int), 0]] := by
  unfold obL
  rw [List.range_succ, List.map_append]; rfl
def skL (a b : Int) : List Int := a :: b :: List.replicate 14 0
def xL (pc : Nat) (a b : Int) (ob : List (List Int)) : Mo := ⟨[⟨0, pc, 0, skL a b⟩], [1], [], ob, 0, [], 0, fun _ => []⟩
theorem insL {pc : Nat} {a b : Int} {ob : List (List Int)} {x : Ins} (h : pc < 3 * k + 2) (hx : (lL k ++ l2L).getD pc zi = x) : insAt (fsL k) (xL pc a b ob) 0 = x := by
  show (if pc < (lL k ++ l2L).length then (lL k ++ l2L).getD pc zi else zi) = x
  rw [if_pos (by rw [List.length_append, lL_len]; exact h), hx]
theorem insL3 {a b : Int} {ob : List (List Int)} (h : i < k) (hr : r < 3) : insAt (fsL k) (xL (3 * i + r) a b ob) 0 = l3.getD r zi := insL (by omega) (by rw [getD_app1 _ (by rw [lL_len]; omega), lL_get hr k h])
theorem stL0 (h : i < k) : step (fsL k) (xL (3 * i) i i (obL i)) 0 = xL (3 * i + 1) i (i + 1) (obL i ++ [[0, 0]]) ∧ ∃ op v, comM (fsL k) (xL (3 * i) i i (obL i)) 0 = comV 0 0 (3 * i : Nat) op v false := by
  have hi := insL3 (a := i) (b := i) (ob := obL i) h (show 0 < 3 by omega)
  rw [Nat.add_zero] at hi
  have ho : outI (fsL k) (xL (3 * i) i i (obL i)) 0 = (⟨[⟨0, 3 * i + 1, 0, skL i ((obL i).length + 1)⟩], [2], [], obL i ++ [[0, 0]], 0, [], 0, fun _ => []⟩, ((obL i).length : Int) + 1, 1, false) := by
    unfold outI; rw [hi]; rfl
  rw [obL_len] at ho
  refine ⟨by unfold step; rw [ho]; rfl, _, _, by unfold comM; rw [ho]; rfl⟩
theorem stL1 (h : i < k) : step (fsL k) (xL (3 * i + 1) i (i + 1) (obL i ++ [[0, 0]])) 0 = xL (3 * i + 2) i (i + 1) (obL (i + 1)) ∧ ∃ op v, comM (fsL k) (xL (3 * i + 1) i (i + 1) (obL i ++ [[0, 0]])) 0 = comV 0 0 (3 * i + 1 : Nat) op v false := by
  have hi := insL3 (a := i) (b := (i : Int) + 1) (ob := obL i ++ [[0, 0]]) h (show 1 < 3 by omega)
  have hid : ((i : Int) + 1).toNat - 1 = i := by omega
  have hg : (obL i ++ [[0, 0]]).getD i [] = [0, 0] := by
    have := getD_app2 (l := obL i) (x := ([0, 0] : List Int)) (d := [])
    rw [obL_len] at this; exact this
  have hs : slotOf (doM (xL (3 * i + 1) i (i + 1) (obL i ++ [[0, 0]])) 0) ((i : Int) + 1) 0 = some 0 := by
    unfold slotOf
    rw [if_neg (by omega)]
    show ((obL i ++ [[0, 0]]).getD (((i : Int) + 1).toNat - 1) [])[0]? = some 0
    rw [hid, hg]; rfl
  have hset : (obL i ++ [[0, 0]]).set i [(i : Int), 0] = obL (i + 1) := by
    rw [obL_next, List.set_append_right _ _ (by rw [obL_len]; exact Nat.le_refl _), obL_len, Nat.sub_self]; rfl
  have ho : outI (fsL k) (xL (3 * i + 1) i (i + 1) (obL i ++ [[0, 0]])) 0 = ({ doM (xL (3 * i + 1) i (i + 1) (obL i ++ [[0, 0]])) 0 with ob := (obL i ++ [[0, 0]]).set (((i : Int) + 1).toNat - 1) (((obL i ++ [[0, 0]]).getD (((i : Int) + 1).toNat - 1) []).set 0 i) }, 0, 1, false) := by
    unfold outI
    rw [hi]
    show (match slotOf (doM (xL (3 * i + 1) i (i + 1) (obL i ++ [[0, 0]])) 0) ((i : Int) + 1) 0 with | none => (doM (xL (3 * i + 1) i (i + 1) (obL i ++ [[0, 0]])) 0, (0 : Int), (5 : Int), true) | some _ => _) = _
    rw [hs]; rfl
  rw [hid, hg] at ho
  have e : ([0, 0] : List Int).set 0 (i : Int) = [(i : Int), 0] := rfl
  rw [e, hset] at ho
  refine ⟨by unfold step; rw [ho]; rfl, _, _, by unfold comM; rw [ho]; rfl⟩
theorem stL2 (h : i < k) : step (fsL k) (xL (3 * i + 2) i (i + 1) (obL (i + 1))) 0 = xL (3 * (i + 1)) (i + 1) (i + 1) (obL (i + 1)) ∧ ∃ op v, comM (fsL k) (xL (3 * i + 2) i (i + 1) (obL (i + 1))) 0 = comV 0 0 (3 * i + 2 : Nat) op v false := by
  have hi := insL3 (a := i) (b := (i : Int) + 1) (ob := obL (i + 1)) h (show 2 < 3 by omega)
  have ho : outI (fsL k) (xL (3 * i + 2) i (i + 1) (obL (i + 1))) 0 = (⟨[⟨0, 3 * i + 3, 0, skL (i + 1) (i + 1)⟩], [2], [], obL (i + 1), 0, [], 0, fun _ => []⟩, 0, 1, false) := by
    unfold outI; rw [hi]; rfl
  refine ⟨by unfold step; rw [ho]; rfl, _, _, by unfold comM; rw [ho]; rfl⟩
theorem lL_end (hr : r < 2) : (lL k ++ l2L).getD (3 * k + r) zi = l2L.getD r zi := by
  rw [List.getD_eq_getElem?_getD, List.getElem?_append_right (by rw [lL_len]; omega), lL_len, show 3 * k + r - 3 * k = r by omega, ← List.getD_eq_getElem?_getD]
theorem stL3 : step (fsL k) (xL (3 * k) k k (obL k)) 0 = xL (3 * k + 1) k 0 (obL k) ∧ ∃ op v, comM (fsL k) (xL (3 * k) k k (obL k)) 0 = comV 0 0 (3 * k : Nat) op v false := by
  have hi := insL (k := k) (a := k) (b := k) (ob := obL k) (pc := 3 * k) (by omega) (lL_end (r := 0) (by omega))
  have ho : outI (fsL k) (xL (3 * k) k k (obL k)) 0 = (⟨[⟨0, 3 * k + 1, 0, skL k 0⟩], [2], [], obL k, 0, [], 0, fun _ => []⟩, 0, 1, false) := by
    unfold outI; rw [hi]; rfl
  refine ⟨by unfold step; rw [ho]; rfl, _, _, by unfold comM; rw [ho]; rfl⟩
theorem stL4 : step (fsL k) (xL (3 * k + 1) k 0 (obL k)) 0 = xL (3 * k + 2) 0 0 (obL k) := by
  have hi := insL (k := k) (a := k) (b := 0) (ob := obL k) (pc := 3 * k + 1) (by omega) (lL_end (r := 1) (by omega))
  have ho : outI (fsL k) (xL (3 * k + 1) k 0 (obL k)) 0 = (⟨[⟨0, 3 * k + 2, 0, skL 0 0⟩], [2], [], obL k, 0, [], 0, fun _ => []⟩, 0, 1, false) := by
    unfold outI; rw [hi]; rfl
  unfold step; rw [ho]; rfl
/-- The model behind j of its steps. -/
def mL (k : Nat) : Nat → Mo
  | 0 => mo0 0
  | j + 1 => step (fsL k) (mL k j) 0
theorem mL3 : ∀ i, i ≤ k → mL k (3 * i) = xL (3 * i) i i (obL i)
  | 0, _ => rfl
  | i + 1, h => by
    have e0 := (stL0 (k := k) (i := i) (by omega)).1
    have e1 := (stL1 (k := k) (i := i) (by omega)).1
    have e2 := (stL2 (k := k) (i := i) (by omega)).1
    show step (fsL k) (step (fsL k) (step (fsL k) (mL k (3 * i)) 0) 0) 0 = _
    rw [mL3 i (by omega), e0, e1, e2]; rfl
/-- Each of these steps goes. -/
theorem mL_go (h : j < 3 * k + 1) : (mL k j).st.getD 0 0 = 1 ∧ (mL k j).gs.length = 1 ∧ ∃ pc op v, comM (fsL k) (mL k j) 0 = comV 0 0 pc op v false := by
  obtain ⟨i, r, hr, rfl⟩ : ∃ i r, r < 3 ∧ j = 3 * i + r := ⟨j / 3, j % 3, Nat.mod_lt _ (by omega), by omega⟩
  have e3 := mL3 (k := k) i (by omega)
  by_cases hk : i < k
  · obtain ⟨e0, c0⟩ := stL0 (k := k) hk
    obtain ⟨e1, c1⟩ := stL1 (k := k) hk
    obtain ⟨e2, c2⟩ := stL2 (k := k) hk
    rcases (show r = 0 ∨ r = 1 ∨ r = 2 by omega) with rfl | rfl | rfl
    · rw [Nat.add_zero, e3]; exact ⟨rfl, rfl, _, c0⟩
    · have : mL k (3 * i + 1) = _ := (congrArg (fun M => step (fsL k) M 0) e3).trans e0
      rw [this]; exact ⟨rfl, rfl, _, c1⟩
    · have : mL k (3 * i + 2) = _ := (congrArg (fun M => step (fsL k) M 0) ((congrArg (fun M => step (fsL k) M 0) e3).trans e0)).trans e1
      rw [this]; exact ⟨rfl, rfl, _, c2⟩
  · obtain rfl : i = k := by omega
    obtain rfl : r = 0 := by omega
    rw [Nat.add_zero, e3]; exact ⟨rfl, rfl, _, stL3.2⟩
theorem mL_end : mL k (3 * k + 1) = xL (3 * k + 1) k 0 (obL k) := by
  show step (fsL k) (mL k (3 * k)) 0 = _
  rw [mL3 k (Nat.le_refl k), stL3.1]
theorem rcL (h1 : 1 ≤ k) (j : Nat) : Rc (xL (3 * k + 1) k 0 (obL k)) j ↔ 1 ≤ j ∧ j ≤ k := by
  constructor
  · intro h
    refine rc_least (fun j => 1 ≤ j ∧ j ≤ k) (fun z hz => (by cases hz)) (fun g hg _ z hz hn => ?_) (fun i hP z hz hn => ?_) h
    · obtain rfl : g = 0 := by have hg : g < 1 := hg; omega
      have hz : z ∈ (k : Int) :: 0 :: List.replicate 14 (0 : Int) := hz
      rcases List.mem_cons.1 hz with rfl | hz
      · omega
      · rcases List.mem_cons.1 hz with rfl | hz
        · exact absurd rfl hn
        · exact absurd (List.eq_of_mem_replicate hz) hn
    · have hz : z ∈ (obL k).getD (i - 1) [] := hz
      rw [obL_get (by omega)] at hz
      simp only [List.mem_cons, List.not_mem_nil, or_false] at hz
      rcases hz with rfl | rfl
      · omega
      · exact absurd rfl hn
  · rintro ⟨h1', h2⟩
    obtain ⟨d, rfl⟩ : ∃ d, j = k - d := ⟨k - j, by omega⟩
    induction d with
    | zero =>
      have : Rc (xL (3 * k + 1) k 0 (obL k)) ((k : Int)).toNat := Rc.sk (g := 0) (by show 0 < 1; omega) (by show (1 : Int) ≠ 5; decide) (by show (k : Int) ∈ (k : Int) :: _; simp) (by omega)
      simpa using this
    | succ d ih =>
      have hp := ih (by omega) (by omega)
      have : Rc (xL (3 * k + 1) k 0 (obL k)) (((k - (d + 1) : Nat) : Int)).toNat := Rc.ob hp (by show ((k - (d + 1) : Nat) : Int) ∈ (obL k).getD (k - d - 1) []; rw [obL_get (by omega), show k - d - 1 = k - (d + 1) by omega]; simp) (by omega)
      simpa using this
theorem reachL (h1 : 1 ≤ k) {zs : List Int} (h : IsReach (xL (3 * k + 1) k 0 (obL k)) zs) : zs.length = k := by
  have hn : ((List.range k).map (fun x : Nat => (x : Int) + 1)).Nodup := by
    refine List.pairwise_map.2 (List.pairwise_lt_range.imp (fun h e => ?_))
    omega
  have := len_of_mem h.nodup hn (fun x => by
    rw [h.mem]
    constructor
    · rintro ⟨j, rfl, hj⟩
      have := (rcL h1 j).1 hj
      exact List.mem_map.2 ⟨j - 1, List.mem_range.2 (by omega), by omega⟩
    · intro hx
      obtain ⟨y, hy, rfl⟩ := List.mem_map.1 hx
      have := List.mem_range.1 hy
      exact ⟨y + 1, by omega, (rcL h1 _).2 (by omega)⟩)
  rw [this, List.length_map, List.length_range]
theorem noL : ∀ i, ¬ Rc (xL (3 * k + 2) 0 0 (obL k)) i := fun i h => by
  induction h with
  | gl a b => cases a
  | sk a b c d =>
    rename_i g z
    obtain rfl : g = 0 := by have a : g < 1 := a; omega
    exact d (List.eq_of_mem_replicate (n := 16) c)
  | ob _ _ _ ih => exact ih
end Md
end Go.Proofs.YtdhkakjiahkjnaaDoor
/- A slice of operations (structs of some numbers and bools) that came in, as the walk asks it. -/
namespace Go.Proofs.YtdhkakjiahkjnaaDoor
open Go.ChangeShapes Go.WideShapes Go.WideElems Go.RowKit Go.Lib Go.Deep Fx Ho
set_option linter.unusedVariables false
namespace Rw
/-- The slice v holds the operations zs. -/
def Op16 (w : World) (v : Value) (zs : List (Int × Int)) : Prop :=
  ∃ sp cap, v = .slice sp zs.length cap ∧ zs.length ≤ 9223372036854775807 ∧ ∀ i, i < zs.length → ∃ b off, sp = some ⟨b, off, none⟩ ∧ b < w.heap.size ∧ w.cell? ⟨b, off + i * 2, none⟩ = some (.int .i64 (zs.getD i (0, 0)).1) ∧ w.cell? ⟨b, off + (i * 2 + 1), none⟩ = some (.int .i64 (zs.getD i (0, 0)).2)
section
variable {H : Type} {enc : TypeId × Value → H}
end
end Rw
end Go.Proofs.YtdhkakjiahkjnaaDoor
/- A slice of bools that came in, as the walk asks it. -/
namespace Go.Proofs.YtdhkakjiahkjnaaDoor
open Go.ChangeShapes Go.WideShapes Go.WideElems Go.RowKit Go.Lib Go.Deep Fx Ho
set_option linter.unusedVariables false
namespace Rw
/-- The slice v holds the bools zs. -/
def BoolsArg (w : World) (v : Value) (zs : List Bool) : Prop :=
  ∃ sp cap, v = .slice sp zs.length cap ∧ zs.length ≤ 9223372036854775807 ∧ ∀ i, i < zs.length → ∃ b off, sp = some ⟨b, off, none⟩ ∧ b < w.heap.size ∧ w.cell? ⟨b, off + i, none⟩ = some (.bool (zs.getD i false))
section
variable {H : Type} {enc : TypeId × Value → H}
set_option maxRecDepth 100000 in
theorem bools_arg {W : World} {base : Nat} {v : Value} {d : DataW H} {p : List MemPlace} (hval : Value.okWide Tryd.prog W .any base 93 v) (h : DataW.Trod enc Tryd.prog W 0 (fun _ => true) true 93 v d p) : ∃ zs, BoolsArg W v zs := by
  obtain ⟨a0, len, cap, rfl⟩ := okWide_slice Tryd.underlying93 hval
  obtain ⟨fuel, hf⟩ := h
  rcases open_slice Tryd.underlying93 hf with ⟨hcs, _⟩ | ⟨a, len', cap', m, n, D, Pl, hcs, _, hl, hm, hmm, _, hx⟩
  · simp [Value.cells] at hcs
    obtain ⟨rfl, rfl, rfl⟩ := hcs
    exact ⟨[], none, 0, rfl, by simp, fun i hi => by simp at hi⟩
  · simp [Value.cells] at hcs
    obtain ⟨rfl, rfl, rfl⟩ := hcs
    simp only [if_true] at hmm
    have ce : Tryd.prog.cellsOf 4 = 1 := by kernel_rfl
    have each : ∀ i, i < m → ∃ q : Bool, W.cell? (a.add i) = some (.bool q) := by
      intro i hi
      obtain ⟨cs', h1, h2⟩ := hx i hi
      rw [ce] at h1
      obtain ⟨_, hlen, hcell⟩ := World.cells?_some h1
      match cs', hlen with
      | [v0], _ =>
        obtain ⟨n2, e2, _⟩ := DataW.trod_bool Tryd.underlying4 h2
        have k0 := hcell 0 (by omega)
        rw [add_add] at k0
        exact ⟨n2, by simpa [e2] using k0⟩
    obtain ⟨q, hq⟩ := choose_lt each
    by_cases h0 : len = 0
    · subst h0; exact ⟨[], some a, cap, rfl, by simp, fun i hi => by simp at hi⟩
    · obtain ⟨b, off, spot⟩ := a
      have hlm : len ≤ m := by omega
      have c0 := hq 0 (by omega)
      have hspot : spot = none := by simpa [Addr.add] using World.cell?_spot c0
      subst hspot
      have hll : ((List.range len).map q).length = len := by simp
      refine ⟨(List.range len).map q, some ⟨b, off, none⟩, cap, by rw [hll], by rw [hll]; unfold maxLen at hm; omega, fun i hi => ⟨b, off, rfl, World.block_lt_of_cell? W _ c0, ?_⟩⟩
      rw [hll] at hi
      rw [← addr_add, hq i (by omega)]
      simp [List.getD, hi]
end
end Rw
end Go.Proofs.YtdhkakjiahkjnaaDoor
