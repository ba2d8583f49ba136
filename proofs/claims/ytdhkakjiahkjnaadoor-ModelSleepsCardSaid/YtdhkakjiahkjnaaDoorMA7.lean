import Derived.Test.YtdhkakjiahkjnaaDoorMB2
import Derived.Test.YtdhkakjiahkjnaaDoorMA6
import Derived.Test.YtdhkakjiahkjnaaDoorMA2
import Derived.Deep.OwnRows
import Derived.Deep.LoopGhost
/- The model: what holds behind each step (by lists alone). -/
namespace Go.Proofs.YtdhkakjiahkjnaaDoor
open Go.RowKit Go.Lib Fx Ho Gr
set_option linter.unusedVariables false
namespace Md
open Cd (Ins zi ca c4 okI hasB bnd kd okAt CntOk MayIs)
variable {fs : List (List Ins)} {M M' : Mo} {g a b c n i G K K' : Nat} {r r' : Gor} {ts : Int}
section lists
variable {α : Type} {l : List α} {d x y : α} {j k : Nat}
theorem getD_mem (d : α) (h : k < l.length) : l.getD k d ∈ l := by
  rw [List.getD_eq_getElem?_getD, List.getElem?_eq_getElem h]; exact List.getElem_mem _
theorem getD_set_eq (h : k < l.length) : (l.set k x).getD k d = x := by
  rw [List.getD_eq_getElem?_getD, List.getElem?_set_self h]; rfl
theorem getD_set_ne (h : k ≠ j) : (l.set k x).getD j d = l.getD j d := by
  rw [List.getD_eq_getElem?_getD, List.getElem?_set_ne h, ← List.getD_eq_getElem?_getD]
theorem getD_app1 (l2 : List α) (h : k < l.length) : (l ++ l2).getD k d = l.getD k d := by
  rw [List.getD_eq_getElem?_getD, List.getElem?_append_left h, ← List.getD_eq_getElem?_getD]
theorem getD_app2 : (l ++ [x]).getD l.length d = x := by
  rw [List.getD_eq_getElem?_getD, List.getElem?_append_right (Nat.le_refl _), Nat.sub_self]; rfl
theorem getD_none (h : l.length ≤ k) : l.getD k d = d := by
  rw [List.getD_eq_getElem?_getD, List.getElem?_eq_none h]; rfl
theorem mem_getD (d : α) (h : x ∈ l) : ∃ k, k < l.length ∧ l.getD k d = x := by
  obtain ⟨k, hk, rfl⟩ := List.getElem_of_mem h
  exact ⟨k, hk, by rw [List.getD_eq_getElem?_getD, List.getElem?_eq_getElem hk]; rfl⟩
/-- Distinct numbers below n are at most n. -/
theorem pig : ∀ (n : Nat) (l : List Int), l.Nodup → (∀ x ∈ l, ∃ t : Nat, x = (t : Int) ∧ t < n) → l.length ≤ n
  | 0, l, _, h => by
    cases l with
    | nil => simp
    | cons x l => obtain ⟨t, _, ht⟩ := h x (by simp); omega
  | n + 1, l, hn, h => by
    have ih := pig n (l.erase (n : Int)) (hn.erase _) (fun x hx => by
      obtain ⟨t, rfl, ht⟩ := h x (List.mem_of_mem_erase hx)
      have hne : ((t : Nat) : Int) ≠ (n : Int) := fun e => by
        rw [e] at hx
        exact (List.Nodup.not_mem_erase hn) hx
      exact ⟨t, rfl, by omega⟩)
    have := List.length_erase (a := (n : Int)) (l := l)
    split at this <;> omega
end lists
/-- The program may be. -/
structure Pg (G : Nat) (fs : List (List Ins)) : Prop where
  len : fs.length ≤ 16
  pos : 1 ≤ fs.length
  gl : G ≤ 32
  fl : ∀ i, i < fs.length → 1 ≤ (fs.getD i []).length ∧ (fs.getD i []).length ≤ 64
  ok : ∀ i, i < fs.length → ∀ j, j < (fs.getD i []).length → okAt G fs i j = true
theorem pg_of (h : MayIs (G : Int) fs 0) : Pg G fs := by
  rcases h with ⟨_, e⟩ | ⟨h1, h2, _⟩ | ⟨_, i, j, _, _, _, _, _, e⟩
  · exact absurd e (by decide)
  · exact ⟨h1.2.1, h1.1, by have := h1.2.2.2.1; omega, h1.2.2.2.2, h2⟩
  · omega
theorem bnd_of {nf len m : Nat} {k : Int} (h : (m : Int) < bnd G nf len k) : (k = 0 → m < 1) ∧ (k = 1 → m < 256) ∧ (k = 2 → m < 16) ∧ (k = 3 → m < G) ∧ (k = 4 → m < nf) ∧ (k = 5 → m < len) ∧ (k = 6 → m < 32) := by
  refine ⟨fun e => ?_, fun e => ?_, fun e => ?_, fun e => ?_, fun e => ?_, fun e => ?_, fun e => ?_⟩ <;> (subst e; simp [bnd] at h; omega)
/-- A next instruction may be done. -/
theorem next_fit (hP : Pg G fs) (hf : r.f < fs.length) : ∃ op a b c : Nat, nextI fs r = ((op : Int), (a : Int), (b : Int), (c : Int)) ∧ fitN G fs.length (fs.getD r.f []).length op a b c ∧ (¬ r.pc < (fs.getD r.f []).length → op = 0) := by
  by_cases hpc : r.pc < (fs.getD r.f []).length
  · have hok := hP.ok r.f hf r.pc hpc
    unfold nextI
    rw [if_pos hpc]
    unfold okAt okI at hok
    generalize (fs.getD r.f []).getD r.pc zi = x at *
    obtain ⟨x0, x1, x2, x3⟩ := x
    simp only [hasB, Bool.and_eq_true, decide_eq_true_eq] at hok
    obtain ⟨⟨h0, h18⟩, ⟨ha0, ha1⟩, ⟨hb0, hb1⟩, hc0, hc1⟩ := hok
    obtain ⟨op, rfl⟩ := Int.eq_ofNat_of_zero_le h0
    obtain ⟨a, rfl⟩ := Int.eq_ofNat_of_zero_le ha0
    obtain ⟨b, rfl⟩ := Int.eq_ofNat_of_zero_le hb0
    obtain ⟨c, rfl⟩ := Int.eq_ofNat_of_zero_le hc0
    rw [Int.toNat_natCast] at ha1 hb1 hc1
    refine ⟨op, a, b, c, rfl, ⟨by omega, fun k n h => ?_⟩, fun h => absurd hpc h⟩
    rcases h with ⟨rfl, rfl⟩ | ⟨rfl, rfl⟩ | ⟨rfl, rfl⟩
    · exact bnd_of ha1
    · exact bnd_of hb1
    · exact bnd_of hc1
  · refine ⟨0, 0, 0, 0, by unfold nextI; rw [if_neg hpc]; rfl, ⟨by omega, fun k n h => ?_⟩, fun _ => rfl⟩
    have hk : k = 0 ∧ n = 0 := by
      rcases h with ⟨h, e⟩ | ⟨h, e⟩ | ⟨h, e⟩ <;> exact ⟨h.symm, e⟩
    obtain ⟨rfl, rfl⟩ := hk
    exact ⟨fun _ => by omega, fun e => absurd e (by decide), fun e => absurd e (by decide), fun e => absurd e (by decide), fun e => absurd e (by decide), fun e => absurd e (by decide), fun e => absurd e (by decide)⟩
/-- A goroutine stands rightly; identities are at most n. -/
structure GorOk (fs : List (List Ins)) (n : Nat) (r : Gor) : Prop where
  f : r.f < fs.length
  pc : r.pc ≤ 65
  ct : r.ct ≤ 65536
  sk : r.sk.length = 16
  val : ∀ x ∈ r.sk, 0 ≤ x ∧ x ≤ n
theorem GorOk.more (h : GorOk fs n r) {m : Nat} (hm : n ≤ m) : GorOk fs m r := ⟨h.f, h.pc, h.ct, h.sk, fun x hx => by have := h.val x hx; omega⟩
theorem GorOk.at_ (h : GorOk fs n r) {k : Nat} (hk : k < 16) : 0 ≤ r.sk.getD k 0 ∧ r.sk.getD k 0 ≤ n := h.val _ (getD_mem 0 (by rw [h.sk]; exact hk))
theorem GorOk.put (h : GorOk fs n r) {x : Int} (hx : 0 ≤ x ∧ x ≤ n) : GorOk fs n { r with sk := r.sk.set a x } :=
  ⟨h.f, h.pc, h.ct, by rw [List.length_set]; exact h.sk, fun y hy => (List.mem_or_eq_of_mem_set hy).elim (h.val y) (fun e => e ▸ hx)⟩
theorem GorOk.fresh {x : Int} (hf : a < fs.length) (hx : 0 ≤ x ∧ x ≤ n) : GorOk fs n (fresh a x) :=
  ⟨hf, by show 0 ≤ 65; omega, by show 0 ≤ 65536; omega, rfl, fun y hy => by
    have hy : y ∈ x :: List.replicate 15 (0 : Int) := hy
    rcases List.mem_cons.1 hy with rfl | hy
    · exact hx
    · rw [List.eq_of_mem_replicate hy]; omega⟩
/-- All stands rightly behind K steps. -/
structure Inv (G : Nat) (fs : List (List Ins)) (M : Mo) (K : Nat) : Prop where
  gl : M.gl.length = G
  len : M.st.length = M.gs.length
  few : M.st.length ≤ 1024
  gor : ∀ r ∈ M.gs, GorOk fs M.ob.length r
  pc : ∀ g, g < M.gs.length → M.st.getD g 0 ≠ 5 → (M.gs.getD g g0).pc ≤ (fs.getD (M.gs.getD g g0).f []).length
  st : ∀ x ∈ M.st, x = 1 ∨ x = 3 ∨ x = 5
  glv : ∀ x ∈ M.gl, 0 ≤ x ∧ x ≤ M.ob.length
  obl : ∀ o ∈ M.ob, 1 ≤ o.length ∧ o.length ≤ 256
  obv : ∀ o ∈ M.ob, ∀ x ∈ o, 0 ≤ x ∧ x ≤ M.ob.length
  ob : M.ob.length ≤ K
  tn : M.tn ≤ K
  ck0 : 0 ≤ M.ck
  ck1 : M.ck ≤ 1000000 * K
  wl : ∀ j, j < 32 → (M.wz j).length ≤ K
  w3 : ∀ j, j < 32 → ∀ x ∈ M.wz j, ∃ t : Nat, x = (t : Int) ∧ t < M.st.length ∧ M.st.getD t 0 = 3
  t3 : ∀ s ∈ M.tm, ∃ t : Nat, s.2.1 = (t : Int) ∧ t < M.st.length ∧ M.st.getD t 0 = 3
  wn : ∀ j, j < 32 → (M.wz j).Nodup
  wd : ∀ i j, i < 32 → j < 32 → ∀ x, x ∈ M.wz i → x ∈ M.wz j → i = j
  tnd : (M.tm.map (·.2.1)).Nodup
  tw : ∀ s ∈ M.tm, ∀ j, j < 32 → s.2.1 ∉ M.wz j
theorem Inv.tml (h : Inv G fs M K) : M.tm.length ≤ M.st.length := by
  have := pig M.st.length (M.tm.map (·.2.1)) h.tnd (fun x hx => by
    obtain ⟨s, hs, rfl⟩ := List.mem_map.1 hx
    obtain ⟨t, e, ht, _⟩ := h.t3 s hs
    exact ⟨t, e, ht⟩)
  rwa [List.length_map] at this
theorem Inv.more (h : Inv G fs M K) (hK : K ≤ K') : Inv G fs M K' :=
  ⟨h.gl, h.len, h.few, h.gor, h.pc, h.st, h.glv, h.obl, h.obv, Nat.le_trans h.ob hK, Nat.le_trans h.tn hK, h.ck0, by have := h.ck1; omega, fun j hj => Nat.le_trans (h.wl j hj) hK, h.w3, h.t3, h.wn, h.wd, h.tnd, h.tw⟩
theorem keep3 {L : List Int} {t x : Nat} {y : Int} (h1 : L.getD g 0 = 1) (h3 : L.getD t 0 = 3) : (L.set g y).getD t 0 = 3 := by
  rw [getD_set_ne (fun e => by subst e; rw [h1] at h3; exact absurd h3 (by decide))]; exact h3
/-- A goroutine that was runnable has gone on. -/
theorem Inv.gor_set (h : Inv G fs M K) (hg : g < M.gs.length) (h1 : M.st.getD g 0 = 1) (hr : GorOk fs M.ob.length r') (ht : ts = 1 ∨ ts = 3 ∨ ts = 5) (hpc : ts ≠ 5 → r'.pc ≤ (fs.getD r'.f []).length) : Inv G fs { M with st := M.st.set g ts, gs := M.gs.set g r' } K := by
  have hs := h.len
  refine ⟨h.gl, ?_, ?_, fun x hx => (List.mem_or_eq_of_mem_set hx).elim (h.gor x) (fun e => e ▸ hr), fun j hj hn => ?_, fun x hx => (List.mem_or_eq_of_mem_set hx).elim (h.st x) (fun e => e ▸ ht), h.glv, h.obl, h.obv, h.ob, h.tn, h.ck0, h.ck1, h.wl, fun j hj x hx => ?_, fun s hx => ?_, h.wn, h.wd, h.tnd, h.tw⟩
  · show (M.st.set g ts).length = (M.gs.set g r').length
    rw [List.length_set, List.length_set]; exact h.len
  · show (M.st.set g ts).length ≤ 1024
    rw [List.length_set]; exact h.few
  · have hj : j < (M.gs.set g r').length := hj
    have hn : (M.st.set g ts).getD j 0 ≠ 5 := hn
    rw [List.length_set] at hj
    show ((M.gs.set g r').getD j g0).pc ≤ (fs.getD ((M.gs.set g r').getD j g0).f []).length
    by_cases e : g = j
    · subst e
      rw [getD_set_eq hg]
      rw [getD_set_eq (by omega)] at hn
      exact hpc hn
    · rw [getD_set_ne e]
      rw [getD_set_ne e] at hn
      exact h.pc j hj hn
  · obtain ⟨t, e, h2, h3⟩ := h.w3 j hj x hx
    exact ⟨t, e, by show t < (M.st.set g ts).length; rw [List.length_set]; exact h2, keep3 (x := 0) h1 h3⟩
  · obtain ⟨t, e, h2, h3⟩ := h.t3 s hx
    exact ⟨t, e, by show t < (M.st.set g ts).length; rw [List.length_set]; exact h2, keep3 (x := 0) h1 h3⟩
theorem Inv.ob_app (h : Inv G fs M K) {o : List Int} (ho : 1 ≤ o.length ∧ o.length ≤ 256) (hz : ∀ x ∈ o, x = 0) : Inv G fs { M with ob := M.ob ++ [o] } (K + 1) := by
  have hl : (M.ob ++ [o]).length = M.ob.length + 1 := by rw [List.length_append]; rfl
  refine ⟨h.gl, h.len, h.few, fun x hx => (h.gor x hx).more (by rw [hl]; omega), h.pc, h.st, fun x hx => ?_, fun x hx => ?_, fun x hx y hy => ?_, ?_, by have := h.tn; show M.tn ≤ K + 1; omega, h.ck0, by have := h.ck1; show M.ck ≤ _; omega, fun j hj => by have := h.wl j hj; show (M.wz j).length ≤ K + 1; omega, h.w3, h.t3, h.wn, h.wd, h.tnd, h.tw⟩
  · have := h.glv x hx
    show 0 ≤ x ∧ x ≤ ((M.ob ++ [o]).length : Int)
    rw [hl]; omega
  · rcases List.mem_append.1 hx with e | e
    · exact h.obl x e
    · rw [List.mem_singleton] at e; subst e; exact ho
  · show 0 ≤ y ∧ y ≤ ((M.ob ++ [o]).length : Int)
    rw [hl]
    rcases List.mem_append.1 hx with e | e
    · have := h.obv x e y hy; omega
    · rw [List.mem_singleton] at e; subst e
      rw [hz y hy]; omega
  · show (M.ob ++ [o]).length ≤ K + 1
    rw [hl]; have := h.ob; omega
theorem Inv.ob_set (h : Inv G fs M K) {o : List Int} (i : Nat) (ho : 1 ≤ o.length ∧ o.length ≤ 256) (hv : ∀ x ∈ o, 0 ≤ x ∧ x ≤ M.ob.length) : Inv G fs { M with ob := M.ob.set i o } K := by
  have hl : (M.ob.set i o).length = M.ob.length := List.length_set
  refine ⟨h.gl, h.len, h.few, fun x hx => (h.gor x hx).more (by rw [hl]; omega), h.pc, h.st, fun x hx => ?_, fun x hx => ?_, fun x hx y hy => ?_, ?_, h.tn, h.ck0, h.ck1, h.wl, h.w3, h.t3, h.wn, h.wd, h.tnd, h.tw⟩
  · have := h.glv x hx
    show 0 ≤ x ∧ x ≤ ((M.ob.set i o).length : Int)
    rw [hl]; omega
  · exact (List.mem_or_eq_of_mem_set hx).elim (h.obl x) (fun e => e ▸ ho)
  · show 0 ≤ y ∧ y ≤ ((M.ob.set i o).length : Int)
    rw [hl]
    exact (List.mem_or_eq_of_mem_set hx).elim (fun e => h.obv x e y hy) (fun e => by subst e; exact hv y hy)
  · show (M.ob.set i o).length ≤ K
    rw [hl]; exact h.ob
theorem Inv.gl_set (h : Inv G fs M K) {v : Int} (i : Nat) (hv : 0 ≤ v ∧ v ≤ M.ob.length) : Inv G fs { M with gl := M.gl.set i v } K :=
  ⟨by show (M.gl.set i v).length = G; rw [List.length_set]; exact h.gl, h.len, h.few, h.gor, h.pc, h.st, fun x hx => (List.mem_or_eq_of_mem_set hx).elim (h.glv x) (fun e => e ▸ hv), h.obl, h.obv, h.ob, h.tn, h.ck0, h.ck1, h.wl, h.w3, h.t3, h.wn, h.wd, h.tnd, h.tw⟩
theorem Inv.gs_app (h : Inv G fs M K) {y : Int} (hf : a < fs.length) (hy : 0 ≤ y ∧ y ≤ M.ob.length) (hs : M.st.length < 1024) : Inv G fs { M with st := M.st ++ [1], gs := M.gs ++ [fresh a y] } K := by
  have hl : (M.st ++ [1]).length = M.st.length + 1 := by rw [List.length_append]; rfl
  have hl2 : (M.gs ++ [fresh a y]).length = M.gs.length + 1 := by rw [List.length_append]; rfl
  have hs2 := h.len
  refine ⟨h.gl, by show (M.st ++ [1]).length = (M.gs ++ [fresh a y]).length; omega, by show (M.st ++ [1]).length ≤ 1024; omega, fun x hx => ?_, fun j hj hn => ?_, fun x hx => ?_, h.glv, h.obl, h.obv, h.ob, h.tn, h.ck0, h.ck1, h.wl, fun j hj x hx => ?_, fun s hx => ?_, h.wn, h.wd, h.tnd, h.tw⟩
  · rcases List.mem_append.1 hx with e | e
    · exact h.gor x e
    · rw [List.mem_singleton] at e; subst e; exact GorOk.fresh hf hy
  · have hj : j < (M.gs ++ [fresh a y]).length := hj
    have hn : (M.st ++ [1]).getD j 0 ≠ 5 := hn
    show ((M.gs ++ [fresh a y]).getD j g0).pc ≤ (fs.getD ((M.gs ++ [fresh a y]).getD j g0).f []).length
    rcases Nat.lt_or_ge j M.gs.length with e | e
    · rw [getD_app1 _ e]
      rw [getD_app1 _ (by omega)] at hn
      exact h.pc j e hn
    · obtain rfl : j = M.gs.length := by omega
      rw [getD_app2]
      exact Nat.zero_le _
  · rcases List.mem_append.1 hx with e | e
    · exact h.st x e
    · rw [List.mem_singleton] at e; exact .inl e
  · obtain ⟨t, e, h2, h3⟩ := h.w3 j hj x hx
    exact ⟨t, e, by show t < (M.st ++ [1]).length; omega, by show (M.st ++ [1]).getD t 0 = 3; rw [getD_app1 _ h2]; exact h3⟩
  · obtain ⟨t, e, h2, h3⟩ := h.t3 s hx
    exact ⟨t, e, by show t < (M.st ++ [1]).length; omega, by show (M.st ++ [1]).getD t 0 = 3; rw [getD_app1 _ h2]; exact h3⟩
theorem Inv.tm_app (h : Inv G fs M K) {x : Int} (hg : g < M.st.length) (h3 : M.st.getD g 0 = 3) (hn : ∀ s ∈ M.tm, s.2.1 ≠ (g : Int)) (hw : ∀ j, j < 32 → (g : Int) ∉ M.wz j) : Inv G fs { M with tm := M.tm ++ [(x, (g : Int), (M.tn : Int))], tn := M.tn + 1 } (K + 1) := by
  refine ⟨h.gl, h.len, h.few, h.gor, h.pc, h.st, h.glv, h.obl, h.obv, by have := h.ob; show M.ob.length ≤ K + 1; omega, by have := h.tn; show M.tn + 1 ≤ K + 1; omega, h.ck0, by have := h.ck1; show M.ck ≤ _; omega, fun j hj => by have := h.wl j hj; show (M.wz j).length ≤ K + 1; omega, h.w3, fun s hs => ?_, h.wn, h.wd, ?_, fun s hs => ?_⟩
  · rcases List.mem_append.1 hs with e | e
    · exact h.t3 s e
    · rw [List.mem_singleton] at e; subst e; exact ⟨g, rfl, hg, h3⟩
  · show ((M.tm ++ [(x, (g : Int), (M.tn : Int))]).map (·.2.1)).Nodup
    rw [List.map_append]
    refine List.nodup_append.2 ⟨h.tnd, by simp, fun y hy z hz => ?_⟩
    obtain ⟨s, hs, rfl⟩ := List.mem_map.1 hy
    simp only [List.map_cons, List.map_nil, List.mem_singleton] at hz
    subst hz
    exact hn s hs
  · rcases List.mem_append.1 hs with e | e
    · exact h.tw s e
    · rw [List.mem_singleton] at e; subst e; exact hw
theorem Inv.wz_app (h : Inv G fs M K) (ha : a < 32) (hg : g < M.st.length) (h3 : M.st.getD g 0 = 3) (hn : ∀ s ∈ M.tm, s.2.1 ≠ (g : Int)) (hw : ∀ j, j < 32 → (g : Int) ∉ M.wz j) : Inv G fs { M with wz := Wt.upd M.wz a (M.wz a ++ [(g : Int)]) } (K + 1) := by
  have key : ∀ j x, x ∈ Wt.upd M.wz a (M.wz a ++ [(g : Int)]) j → x ∈ M.wz j ∨ (j = a ∧ x = (g : Int)) := fun j x hx => by
    unfold Wt.upd at hx
    split at hx
    · rename_i e
      subst e
      rcases List.mem_append.1 hx with e | e
      · exact .inl e
      · exact .inr ⟨rfl, List.mem_singleton.1 e⟩
    · exact .inl hx
  refine ⟨h.gl, h.len, h.few, h.gor, h.pc, h.st, h.glv, h.obl, h.obv, by have := h.ob; show M.ob.length ≤ K + 1; omega, by have := h.tn; show M.tn ≤ K + 1; omega, h.ck0, by have := h.ck1; show M.ck ≤ _; omega, fun j hj => ?_, fun j hj x hx => ?_, h.t3, fun j hj => ?_, fun i j hi hj x h1 h2 => ?_, h.tnd, fun s hs j hj hx => ?_⟩
  · have := h.wl j hj
    show (Wt.upd M.wz a (M.wz a ++ [(g : Int)]) j).length ≤ K + 1
    unfold Wt.upd
    split
    · rename_i e
      subst e
      rw [List.length_append, List.length_singleton]; omega
    · omega
  · rcases key j x hx with e | ⟨_, e⟩
    · exact h.w3 j hj x e
    · exact ⟨g, e, hg, h3⟩
  · show (Wt.upd M.wz a (M.wz a ++ [(g : Int)]) j).Nodup
    unfold Wt.upd
    split
    · refine List.nodup_append.2 ⟨h.wn a ha, by simp, fun y hy z hz => ?_⟩
      rw [List.mem_singleton] at hz
      subst hz
      exact fun e => hw a ha (e ▸ hy)
    · exact h.wn j hj
  · rcases key i x h1 with e | ⟨e1, e⟩ <;> rcases key j x h2 with e' | ⟨e1', e'⟩
    · exact h.wd i j hi hj x e e'
    · exact absurd (e' ▸ e) (hw i hi)
    · exact absurd (e ▸ e') (hw j hj)
    · rw [e1, e1']
  · rcases key j _ hx with e | ⟨_, e⟩
    · exact h.tw s hs j hj e
    · exact hn s hs e
theorem Inv.wake (h : Inv G fs M K) (ha : a < 32) {t : Nat} {T : List Int} (hz : M.wz a = (t : Int) :: T) : Inv G fs { M with wz := Wt.upd M.wz a T, st := M.st.set t 1 } K := by
  have hmem : (t : Int) ∈ M.wz a := by rw [hz]; simp
  have hnd := h.wn a ha
  rw [hz] at hnd
  have hnT : (t : Int) ∉ T := (List.nodup_cons.1 hnd).1
  have key : ∀ j x, x ∈ Wt.upd M.wz a T j → x ∈ M.wz j ∧ x ≠ (t : Int) ∨ ¬ j < 32 := fun j x hx => by
    by_cases hj : j < 32
    · refine .inl ?_
      unfold Wt.upd at hx
      split at hx
      · rename_i e
        subst e
        exact ⟨by rw [hz]; simp [hx], fun e => hnT (e ▸ hx)⟩
      · rename_i e
        exact ⟨hx, fun e2 => e (h.wd j a hj ha x hx (e2 ▸ hmem))⟩
    · exact .inr hj
  have kst : ∀ {x : Int} {u : Nat}, x ≠ (t : Int) → x = (u : Int) → u < M.st.length → M.st.getD u 0 = 3 → u < (M.st.set t 1).length ∧ (M.st.set t 1).getD u 0 = 3 := fun hne e h2 h3 => ⟨by rw [List.length_set]; exact h2, by rw [getD_set_ne (fun e2 => hne (by rw [e, e2]))]; exact h3⟩
  refine ⟨h.gl, by show (M.st.set t 1).length = _; rw [List.length_set]; exact h.len, by show (M.st.set t 1).length ≤ _; rw [List.length_set]; exact h.few, h.gor, fun j hj hn => ?_, fun x hx => (List.mem_or_eq_of_mem_set hx).elim (h.st x) (fun e => .inl e), h.glv, h.obl, h.obv, h.ob, h.tn, h.ck0, h.ck1, fun j hj => ?_, fun j hj x hx => ?_, fun s hs => ?_, fun j hj => ?_, fun i j hi hj x h1 h2 => ?_, h.tnd, fun s hs j hj hx => ?_⟩
  · have hn : (M.st.set t 1).getD j 0 ≠ 5 := hn
    refine h.pc j hj (fun e => hn ?_)
    by_cases e2 : t = j
    · subst e2
      obtain ⟨u, e3, _, h3⟩ := h.w3 a ha _ hmem
      obtain rfl : t = u := by omega
      rw [e] at h3
      exact absurd h3 (by decide)
    · rw [getD_set_ne e2]; exact e
  · have := h.wl j hj
    show (Wt.upd M.wz a T j).length ≤ K
    unfold Wt.upd
    split
    · rename_i e
      subst e
      rw [hz, List.length_cons] at this; omega
    · exact this
  · rcases key j x hx with ⟨e, hne⟩ | e
    · obtain ⟨u, e2, h2, h3⟩ := h.w3 j hj x e
      exact ⟨u, e2, kst hne e2 h2 h3⟩
    · exact absurd hj e
  · obtain ⟨u, e2, h2, h3⟩ := h.t3 s hs
    exact ⟨u, e2, kst (x := s.2.1) (fun e => h.tw s hs a ha (by rw [e]; exact hmem)) e2 h2 h3⟩
  · show (Wt.upd M.wz a T j).Nodup
    unfold Wt.upd
    split
    · exact (List.nodup_cons.1 hnd).2
    · exact h.wn j hj
  · rcases key i x h1 with ⟨e, _⟩ | e
    · rcases key j x h2 with ⟨e', _⟩ | e'
      · exact h.wd i j hi hj x e e'
      · exact absurd hj e'
    · exact absurd hi e
  · rcases key j _ hx with ⟨e, _⟩ | e
    · exact h.tw s hs j hj e
    · exact absurd hj e
/-- Who wakes by a tick is runnable. -/
def wakeAll : List Int → List Int → List Int
  | st, [] => st
  | st, x :: l => wakeAll (st.set x.toNat 1) l
theorem wakeAll_len : ∀ (l st : List Int), (wakeAll st l).length = st.length
  | [], st => rfl
  | x :: l, st => by show (wakeAll (st.set x.toNat 1) l).length = _; rw [wakeAll_len l, List.length_set]
theorem wakeAll_out : ∀ (l st : List Int) (t : Nat), (∀ x ∈ l, 0 ≤ x) → (t : Int) ∉ l → (wakeAll st l).getD t 0 = st.getD t 0
  | [], st, t, _, _ => rfl
  | x :: l, st, t, h0, h => by
    show (wakeAll (st.set x.toNat 1) l).getD t 0 = _
    have hx := h0 x (by simp)
    rw [wakeAll_out l _ t (fun y hy => h0 y (by simp [hy])) (fun e => h (by simp [e])), getD_set_ne (fun e => h (by rw [show (t : Int) = x by omega]; simp))]
theorem wakeAll_in : ∀ (l st : List Int) (t : Nat), (∀ x ∈ l, 0 ≤ x) → t < st.length → (t : Int) ∈ l → (wakeAll st l).getD t 0 = 1
  | [], st, t, _, _, h => absurd h (by simp)
  | x :: l, st, t, h0, ht, h => by
    show (wakeAll (st.set x.toNat 1) l).getD t 0 = _
    by_cases e : (t : Int) ∈ l
    · exact wakeAll_in l _ t (fun y hy => h0 y (by simp [hy])) (by rw [List.length_set]; exact ht) e
    · rw [wakeAll_out l _ t (fun y hy => h0 y (by simp [hy])) e]
      have hx : (t : Int) = x := (List.mem_cons.1 h).resolve_right e
      rw [show x.toNat = t by omega, getD_set_eq ht]
theorem wakeAll_mem (l : List Int) : ∀ (st : List Int) (y : Int), y ∈ wakeAll st l → y ∈ st ∨ y = 1 := by
  induction l with
  | nil => exact fun st y h => .inl h
  | cons x l ih => exact fun st y h => (ih (st.set x.toNat 1) y h).elim (fun e => List.mem_or_eq_of_mem_set e) .inr
/-- Ticks have gone by. -/
theorem Inv.tick (h : Inv G fs M K) {D T : List Sl} (hp : (D ++ T).Perm M.tm) {x : Int} (h0 : 0 ≤ x) (h1 : x ≤ 1000000 * (K + 1 : Nat)) : Inv G fs { M with ck := x, tm := T, st := wakeAll M.st (D.map (·.2.1)) } (K + 1) := by
  have hD : ∀ s ∈ D, s ∈ M.tm := fun s hs => hp.mem_iff.1 (by simp [hs])
  have hT : ∀ s ∈ T, s ∈ M.tm := fun s hs => hp.mem_iff.1 (by simp [hs])
  have hnd : ((D ++ T).map (·.2.1)).Nodup := (hp.map _).nodup_iff.2 h.tnd
  rw [List.map_append, List.nodup_append] at hnd
  obtain ⟨_, nT, hdt⟩ := hnd
  have pos : ∀ y ∈ D.map (·.2.1), (0 : Int) ≤ y := fun y hy => by
    obtain ⟨s, hs, rfl⟩ := List.mem_map.1 hy
    obtain ⟨t, e, _⟩ := h.t3 s (hD s hs)
    show 0 ≤ s.2.1
    omega
  have kst : ∀ {u : Nat}, (u : Int) ∉ D.map (·.2.1) → M.st.getD u 0 = 3 → (wakeAll M.st (D.map (·.2.1))).getD u 0 = 3 := fun hn h3 => by rw [wakeAll_out _ _ _ pos hn]; exact h3
  refine ⟨h.gl, by show (wakeAll M.st _).length = _; rw [wakeAll_len]; exact h.len, by show (wakeAll M.st _).length ≤ _; rw [wakeAll_len]; exact h.few, h.gor, fun j hj hn => ?_, fun y hy => (wakeAll_mem _ _ y hy).elim (h.st y) .inl, h.glv, h.obl, h.obv, by have := h.ob; show M.ob.length ≤ K + 1; omega, by have := h.tn; show M.tn ≤ K + 1; omega, h0, h1, fun j hj => by have := h.wl j hj; show (M.wz j).length ≤ K + 1; omega, fun j hj y hy => ?_, fun s hs => ?_, h.wn, h.wd, nT, fun s hs => h.tw s (hT s hs)⟩
  · refine h.pc j hj (fun e => hn ?_)
    show (wakeAll M.st (D.map (·.2.1))).getD j 0 = 5
    rw [wakeAll_out _ _ _ pos (fun hm => by
      obtain ⟨s, hs, e2⟩ := List.mem_map.1 hm
      obtain ⟨t, e3, _, h3⟩ := h.t3 s (hD s hs)
      have e2 : s.2.1 = (j : Int) := e2
      obtain rfl : t = j := by omega
      rw [h3] at e
      exact absurd e (by decide))]
    exact e
  · obtain ⟨t, e, h2, h3⟩ := h.w3 j hj y hy
    exact ⟨t, e, by show t < (wakeAll M.st _).length; rw [wakeAll_len]; exact h2, kst (fun hm => by
      obtain ⟨s, hs, e2⟩ := List.mem_map.1 hm
      have e2 : s.2.1 = (t : Int) := e2
      exact h.tw s (hD s hs) j hj (by rw [e2, ← e]; exact hy)) h3⟩
  · obtain ⟨t, e, h2, h3⟩ := h.t3 s (hT s hs)
    exact ⟨t, e, by show t < (wakeAll M.st _).length; rw [wakeAll_len]; exact h2, kst (fun hm => by
      obtain ⟨s2, hs2, e2⟩ := List.mem_map.1 hm
      have e2 : s2.2.1 = (t : Int) := e2
      exact hdt _ (List.mem_map.2 ⟨s2, hs2, rfl⟩) _ (List.mem_map.2 ⟨s, hs, rfl⟩) (by show s2.2.1 = s.2.1; rw [e2, e])) h3⟩
end Md
end Go.Proofs.YtdhkakjiahkjnaaDoor
/- The model: a goroutine's step, as a function of lists; it keeps what holds. -/
namespace Go.Proofs.YtdhkakjiahkjnaaDoor
open Go.RowKit Go.Lib Fx Ho Gr
set_option linter.unusedVariables false
namespace Md
open Cd (Ins zi ca c4 okI hasB bnd kd okAt CntOk MayIs)
variable {fs : List (List Ins)} {M M' : Mo} {g a b c n i G K K' : Nat} {r r' : Gor} {ts : Int}
/-- The model as a goroutine's instruction begins. -/
def doM (M : Mo) (g : Nat) : Mo := { M with st := M.st.set g 2, gs := M.gs.set g { M.gs.getD g g0 with pc := (M.gs.getD g g0).pc + 1 } }
def insAt (fs : List (List Ins)) (M : Mo) (g : Nat) : Ins := nextI fs (M.gs.getD g g0)
def outI (fs : List (List Ins)) (M : Mo) (g : Nat) : Mo × Int × Int × Bool := doI (doM M g) g (insAt fs M g).1.toNat (insAt fs M g).2.1.toNat (insAt fs M g).2.2.1.toNat (insAt fs M g).2.2.2.toNat
/-- What a goroutine that is runnable makes of the model. -/
def step (fs : List (List Ins)) (M : Mo) (g : Nat) : Mo := { (outI fs M g).1 with st := (outI fs M g).1.st.set g (outI fs M g).2.2.1 }
/-- What is told of it. -/
def comM (fs : List (List Ins)) (M : Mo) (g : Nat) : Value := comV g (M.gs.getD g g0).f (M.gs.getD g g0).pc (insAt fs M g).1 (outI fs M g).2.1 (outI fs M g).2.2.2
/-- All is right behind an instruction. -/
structure Went (G : Nat) (fs : List (List Ins)) (K n g : Nat) (y : Mo × Int × Int × Bool) : Prop where
  lt : g < y.1.st.length
  mv : St.mayB (y.1.st.getD g 0) y.2.2.1 = true
  few : y.1.gs.length ≤ n + 1
  inv : Inv G fs { y.1 with st := y.1.st.set g y.2.2.1 } K
theorem may2 (ht : ts = 1 ∨ ts = 3 ∨ ts = 5) : St.mayB 2 ts = true := by rcases ht with rfl | rfl | rfl <;> decide
theorem fin_r (h : Inv G fs M K) (hg : g < M.gs.length) (h1 : M.st.getD g 0 = 1) (hr : GorOk fs M.ob.length r') (ht : ts = 1 ∨ ts = 3 ∨ ts = 5) (hpc : ts ≠ 5 → r'.pc ≤ (fs.getD r'.f []).length) {y : Mo × Int × Int × Bool} (e : y.1 = { M with st := M.st.set g 2, gs := M.gs.set g r' }) (e2 : y.2.2.1 = ts) (hK : K ≤ K') : Went G fs K' M.gs.length g y := by
  have hs := h.len
  refine ⟨?_, ?_, ?_, ?_⟩
  · rw [e]; show g < (M.st.set g 2).length; rw [List.length_set]; omega
  · rw [e, e2]; show St.mayB ((M.st.set g 2).getD g 0) ts = true; rw [getD_set_eq (by omega)]; exact may2 ht
  · rw [e]; show (M.gs.set g r').length ≤ _; rw [List.length_set]; omega
  · rw [e, e2]
    have := (h.gor_set hg h1 hr ht hpc).more hK
    show Inv G fs { M with st := (M.st.set g 2).set g ts, gs := M.gs.set g r' } K'
    rw [List.set_set]; exact this
theorem slot_val (h : Inv G fs M K) {x z : Int} (hx : 0 ≤ x) (hz : slotOf M x i = some z) : 1 ≤ x ∧ x.toNat - 1 < M.ob.length ∧ M.ob.getD (x.toNat - 1) [] ∈ M.ob ∧ i < (M.ob.getD (x.toNat - 1) []).length ∧ z ∈ M.ob.getD (x.toNat - 1) [] ∧ (0 ≤ z ∧ z ≤ M.ob.length) := by
  unfold slotOf at hz
  split at hz
  · cases hz
  · rename_i hx0
    obtain ⟨hi, hz2⟩ := List.getElem?_eq_some_iff.1 hz
    have hl : x.toNat - 1 < M.ob.length := by
      rcases Nat.lt_or_ge (x.toNat - 1) M.ob.length with e | e
      · exact e
      · rw [getD_none e] at hi; simp at hi
    have hm := getD_mem ([] : List Int) hl
    have hzm : z ∈ M.ob.getD (x.toNat - 1) [] := by rw [← hz2]; exact List.getElem_mem _
    exact ⟨by omega, hl, hm, hi, hzm, h.obv _ hm z hzm⟩
theorem went_any (hP : Pg G fs) (h : Inv G fs M K) (hg : g < M.gs.length) (h1 : M.st.getD g 0 = 1) : Went G fs (K + 1) M.gs.length g (outI fs M g) := by
  have hG0 := h.gor _ (getD_mem g0 hg)
  have hp0 := h.pc g hg (by rw [h1]; decide)
  obtain ⟨op, a, b, c, hx, hfit, hop⟩ := next_fit (r := M.gs.getD g g0) hP hG0.f
  have hout : outI fs M g = doI (doM M g) g op a b c := by unfold outI insAt; rw [hx]; simp only [Int.toNat_natCast]
  rw [hout]
  clear hout
  unfold doM
  generalize hr : M.gs.getD g g0 = r at *
  obtain ⟨r1, hr1⟩ : ∃ r1 : Gor, ({ r with pc := r.pc + 1 } : Gor) = r1 := ⟨_, rfl⟩
  rw [hr1]
  have hl64 := (hP.fl r.f hG0.f).2
  have hG1 : GorOk fs M.ob.length r1 := by rw [← hr1]; exact ⟨hG0.f, by show r.pc + 1 ≤ 65; omega, hG0.ct, hG0.sk, hG0.val⟩
  have hp1 : op ≠ 0 → r1.pc ≤ (fs.getD r1.f []).length := fun e => by
    rw [← hr1]
    show r.pc + 1 ≤ (fs.getD r.f []).length
    rcases Nat.lt_or_ge r.pc (fs.getD r.f []).length with e2 | e2
    · exact e2
    · exact absurd (hop (by omega)) e
  have hf1 : r1.f = r.f := by rw [← hr1]
  have hget : (M.gs.set g r1).getD g g0 = r1 := getD_set_eq hg
  have hs := h.len
  have hst : (M.st.set g 2).getD g 0 = 2 := getD_set_eq (by omega)
  obtain ⟨h18, hk⟩ := hfit
  have hA := fun k e => hk k a (.inl ⟨e, rfl⟩)
  have hB := fun k e => hk k b (.inr (.inl ⟨e, rfl⟩))
  have hC := fun k e => hk k c (.inr (.inr ⟨e, rfl⟩))
  have hK1 : K ≤ K + 1 := by omega
  have no3 : ∀ j, j < 32 → (g : Int) ∉ M.wz j := fun j hj hm => by
    obtain ⟨t, e, _, h3⟩ := h.w3 j hj _ hm
    obtain rfl : g = t := by omega
    rw [h1] at h3; exact absurd h3 (by decide)
  have nt3 : ∀ s ∈ M.tm, s.2.1 ≠ (g : Int) := fun s hs e => by
    obtain ⟨t, e2, _, h3⟩ := h.t3 s hs
    obtain rfl : g = t := by omega
    rw [h1] at h3; exact absurd h3 (by decide)
  have ok1 : (1 : Int) = 1 ∨ (1 : Int) = 3 ∨ (1 : Int) = 5 := .inl rfl
  have ok5 : (5 : Int) = 1 ∨ (5 : Int) = 3 ∨ (5 : Int) = 5 := .inr (.inr rfl)
  rcases (show op = 0 ∨ op = 1 ∨ op = 2 ∨ op = 3 ∨ op = 4 ∨ op = 5 ∨ op = 6 ∨ op = 7 ∨ op = 8 ∨ op = 9 ∨ op = 10 ∨ op = 11 ∨ op = 12 ∨ op = 13 ∨ op = 14 ∨ op = 15 ∨ op = 16 ∨ op = 17 by omega) with rfl | rfl | rfl | rfl | rfl | rfl | rfl | rfl | rfl | rfl | rfl | rfl | rfl | rfl | rfl | rfl | rfl | rfl
  · exact fin_r h hg h1 hG1 ok5 (fun e => absurd rfl e) (by simp only [doI]) rfl hK1
  · have ha := (hA 2 rfl).2.2.1 rfl
    have hb := (hB 1 rfl).2.1 rfl
    have h2 := h.ob_app (o := List.replicate (b + 1) 0) (by rw [List.length_replicate]; omega) (fun x hx => List.eq_of_mem_replicate hx)
    have hl : (M.ob ++ [List.replicate (b + 1) 0]).length = M.ob.length + 1 := by rw [List.length_append]; rfl
    refine fin_r h2 hg h1 (r' := { r1 with sk := r1.sk.set a ((M.ob.length : Int) + 1) }) ?_ ok1 (fun _ => hp1 (by decide)) (by simp only [doI, hget, List.set_set]) rfl (Nat.le_refl _)
    exact (hG1.more (by show _ ≤ (M.ob ++ [List.replicate (b + 1) 0]).length; omega)).put (by show 0 ≤ (M.ob.length : Int) + 1 ∧ _ ≤ ((M.ob ++ [List.replicate (b + 1) 0]).length : Int); rw [hl]; omega)
  · have hb := (hB 2 rfl).2.2.1 rfl
    have e0 : doI { M with st := M.st.set g 2, gs := M.gs.set g r1 } g 2 a b c = (match slotOf M (r1.sk.getD b 0) c with | none => ({ M with st := M.st.set g 2, gs := M.gs.set g r1 }, 0, 5, true) | some z => ({ M with st := M.st.set g 2, gs := M.gs.set g { r1 with sk := r1.sk.set a z } }, z, 1, false)) := by
      simp only [doI, hget, List.set_set]; rfl
    rw [e0]
    cases hz : slotOf M (r1.sk.getD b 0) c with
    | none => exact fin_r h hg h1 hG1 ok5 (fun e => absurd rfl e) rfl rfl hK1
    | some z =>
      have hv := slot_val h (hG1.at_ hb).1 hz
      exact fin_r h hg h1 (hG1.put hv.2.2.2.2.2) ok1 (fun _ => hp1 (by decide)) rfl rfl hK1
  · have ha := (hA 2 rfl).2.2.1 rfl
    have hc := (hC 2 rfl).2.2.1 rfl
    have e0 : doI { M with st := M.st.set g 2, gs := M.gs.set g r1 } g 3 a b c = (match slotOf M (r1.sk.getD a 0) b with | none => ({ M with st := M.st.set g 2, gs := M.gs.set g r1 }, 0, 5, true) | some _ => ({ M with st := M.st.set g 2, gs := M.gs.set g r1, ob := M.ob.set ((r1.sk.getD a 0).toNat - 1) ((M.ob.getD ((r1.sk.getD a 0).toNat - 1) []).set b (r1.sk.getD c 0)) }, 0, 1, false)) := by
      simp only [doI, hget]; rfl
    rw [e0]
    cases hz : slotOf M (r1.sk.getD a 0) b with
    | none => exact fin_r h hg h1 hG1 ok5 (fun e => absurd rfl e) rfl rfl hK1
    | some z =>
      obtain ⟨v1, v2, v3, v4, v5, v6⟩ := slot_val h (hG1.at_ ha).1 hz
      have h2 := h.ob_set (o := (M.ob.getD ((r1.sk.getD a 0).toNat - 1) []).set b (r1.sk.getD c 0)) ((r1.sk.getD a 0).toNat - 1) (by rw [List.length_set]; exact h.obl _ v3) (fun x hx => (List.mem_or_eq_of_mem_set hx).elim (h.obv _ v3 x) (fun e => e ▸ hG1.at_ hc))
      exact fin_r h2 hg h1 (hG1.more (by show _ ≤ (M.ob.set _ _).length; rw [List.length_set]; omega)) ok1 (fun _ => hp1 (by decide)) rfl rfl hK1
  · have hb := (hB 2 rfl).2.2.1 rfl
    exact fin_r h hg h1 (hG1.put (a := a) (hG1.at_ hb)) ok1 (fun _ => hp1 (by decide)) (by simp only [doI, hget, List.set_set]) rfl hK1
  · exact fin_r h hg h1 (hG1.put (a := a) (x := 0) (by omega)) ok1 (fun _ => hp1 (by decide)) (by simp only [doI, hget, List.set_set]) rfl hK1
  · have hb := (hB 3 rfl).2.2.2.1 rfl
    exact fin_r h hg h1 (hG1.put (a := a) (h.glv _ (getD_mem 0 (by rw [h.gl]; exact hb)))) ok1 (fun _ => hp1 (by decide)) (by simp only [doI, hget, List.set_set]) rfl hK1
  · have hb := (hB 2 rfl).2.2.1 rfl
    have h2 := h.gl_set (v := r1.sk.getD b 0) a (hG1.at_ hb)
    exact fin_r h2 hg h1 hG1 ok1 (fun _ => hp1 (by decide)) (by simp only [doI, hget]) rfl hK1
  · have ha := (hA 4 rfl).2.2.2.2.1 rfl
    have hb := (hB 2 rfl).2.2.1 rfl
    by_cases hf : M.st.length < 1024
    · have e0 : doI { M with st := M.st.set g 2, gs := M.gs.set g r1 } g 8 a b c = ({ M with st := M.st.set g 2 ++ [1], gs := M.gs.set g r1 ++ [fresh a (r1.sk.getD b 0)] }, ((M.st.set g 2).length : Int), 1, false) := by
        simp only [doI, hget]; rw [if_pos (by rw [List.length_set]; exact hf)]
      rw [e0]
      have h2 := ((h.gor_set hg h1 hG1 (ts := 1) ok1 (fun _ => hp1 (by decide))).gs_app (a := a) (y := r1.sk.getD b 0) ha (hG1.at_ hb) (by show (M.st.set g 1).length < 1024; rw [List.length_set]; exact hf)).more hK1
      refine ⟨?_, ?_, ?_, ?_⟩
      · show g < (M.st.set g 2 ++ [1]).length
        rw [List.length_append, List.length_set]; omega
      · show St.mayB ((M.st.set g 2 ++ [1]).getD g 0) 1 = true
        rw [getD_app1 _ (by rw [List.length_set]; omega), hst]; rfl
      · show (M.gs.set g r1 ++ [fresh a (r1.sk.getD b 0)]).length ≤ _
        rw [List.length_append, List.length_set]; exact Nat.le_refl _
      · show Inv G fs { M with st := (M.st.set g 2 ++ [1]).set g 1, gs := M.gs.set g r1 ++ [fresh a (r1.sk.getD b 0)] } (K + 1)
        rw [List.set_append_left _ _ (by rw [List.length_set]; omega), List.set_set]
        exact h2
    · have e0 : doI { M with st := M.st.set g 2, gs := M.gs.set g r1 } g 8 a b c = ({ M with st := M.st.set g 2, gs := M.gs.set g r1 }, 0, 5, true) := by
        simp only [doI, hget]; rw [if_neg (by rw [List.length_set]; exact hf)]
      rw [e0]
      exact fin_r h hg h1 hG1 ok5 (fun e => absurd rfl e) rfl rfl hK1
  · exact fin_r h hg h1 hG1 ok1 (fun _ => hp1 (by decide)) (by simp only [doI]) rfl hK1
  · have h2 := (h.gor_set hg h1 hG1 (ts := 3) (.inr (.inl rfl)) (fun _ => hp1 (by decide))).tm_app (g := g) (x := M.ck + ((256 * b + c + 1 : Nat) : Int)) (by show g < (M.st.set g 3).length; rw [List.length_set]; omega) (getD_set_eq (by omega)) nt3 no3
    refine ⟨?_, ?_, ?_, ?_⟩
    · show g < (M.st.set g 2).length
      rw [List.length_set]; omega
    · show St.mayB ((M.st.set g 2).getD g 0) 3 = true
      rw [hst]; rfl
    · show (M.gs.set g r1).length ≤ _
      rw [List.length_set]; omega
    · show Inv G fs { M with st := (M.st.set g 2).set g 3, gs := M.gs.set g r1, tm := _, tn := _ } (K + 1)
      rw [List.set_set]
      exact h2
  · have ha := (hA 6 rfl).2.2.2.2.2.2 rfl
    have h2 := (h.gor_set hg h1 hG1 (ts := 3) (.inr (.inl rfl)) (fun _ => hp1 (by decide))).wz_app (g := g) ha (by show g < (M.st.set g 3).length; rw [List.length_set]; omega) (getD_set_eq (by omega)) nt3 no3
    refine ⟨?_, ?_, ?_, ?_⟩
    · show g < (M.st.set g 2).length
      rw [List.length_set]; omega
    · show St.mayB ((M.st.set g 2).getD g 0) 3 = true
      rw [hst]; rfl
    · show (M.gs.set g r1).length ≤ _
      rw [List.length_set]; omega
    · show Inv G fs { M with st := (M.st.set g 2).set g 3, gs := M.gs.set g r1, wz := _ } (K + 1)
      rw [List.set_set]
      exact h2
  · have ha := (hA 6 rfl).2.2.2.2.2.2 rfl
    cases hz : M.wz a with
    | nil =>
      have e0 : doI { M with st := M.st.set g 2, gs := M.gs.set g r1 } g 12 a b c = ({ M with st := M.st.set g 2, gs := M.gs.set g r1 }, -1, 1, false) := by
        simp only [doI, hz]
      rw [e0]
      exact fin_r h hg h1 hG1 ok1 (fun _ => hp1 (by decide)) rfl rfl hK1
    | cons x T =>
      obtain ⟨t, rfl, ht, h3⟩ := h.w3 a ha x (by rw [hz]; simp)
      have hne : t ≠ g := fun e => by subst e; rw [h1] at h3; exact absurd h3 (by decide)
      have e0 : doI { M with st := M.st.set g 2, gs := M.gs.set g r1 } g 12 a b c = ({ M with wz := Wt.upd M.wz a T, st := (M.st.set g 2).set t 1, gs := M.gs.set g r1 }, (t : Int), 1, false) := by
        simp only [doI, hz, Int.toNat_natCast]
      rw [e0, List.set_comm _ _ (fun e => hne e.symm)]
      have h2 := h.wake ha hz
      exact fin_r h2 hg (by show (M.st.set t 1).getD g 0 = 1; rw [getD_set_ne hne]; exact h1) hG1 ok1 (fun _ => hp1 (by decide)) rfl rfl hK1
  · exact fin_r h hg h1 hG1 ok1 (fun _ => hp1 (by decide)) (by simp only [doI]) rfl hK1
  · have ha := (hA 5 rfl).2.2.2.2.2.1 rfl
    refine fin_r h hg h1 (r' := { r1 with pc := a }) ⟨hG1.f, by show a ≤ 65; omega, hG1.ct, hG1.sk, hG1.val⟩ ok1 (fun _ => ?_) (by simp only [doI, hget, List.set_set]) rfl hK1
    show a ≤ (fs.getD r1.f []).length
    rw [hf1]; omega
  · have hc := (hC 5 rfl).2.2.2.2.2.1 rfl
    by_cases he : (r1.sk.getD a 0 == r1.sk.getD b 0) = true
    · refine fin_r h hg h1 (r' := { r1 with pc := c }) ⟨hG1.f, by show c ≤ 65; omega, hG1.ct, hG1.sk, hG1.val⟩ ok1 (fun _ => ?_) (by simp only [doI, hget, List.set_set, he, if_true]) rfl hK1
      show c ≤ (fs.getD r1.f []).length
      rw [hf1]; omega
    · exact fin_r h hg h1 hG1 ok1 (fun _ => hp1 (by decide)) (by simp only [doI, hget, he]; rfl) rfl hK1
  · have ha := (hA 1 rfl).2.1 rfl
    have hb := (hB 1 rfl).2.1 rfl
    exact fin_r h hg h1 (r' := { r1 with ct := 256 * a + b }) ⟨hG1.f, hG1.pc, by show 256 * a + b ≤ 65536; omega, hG1.sk, hG1.val⟩ ok1 (fun _ => hp1 (by decide)) (by simp only [doI, hget, List.set_set]) rfl hK1
  · have ha := (hA 5 rfl).2.2.2.2.2.1 rfl
    by_cases he : 0 < r1.ct
    · refine fin_r h hg h1 (r' := { r1 with ct := r1.ct - 1, pc := a }) ⟨hG1.f, by show a ≤ 65; omega, by show r1.ct - 1 ≤ 65536; have := hG1.ct; omega, hG1.sk, hG1.val⟩ ok1 (fun _ => ?_) (by simp only [doI, hget, List.set_set, he, if_true]) rfl hK1
      show a ≤ (fs.getD r1.f []).length
      rw [hf1]; omega
    · exact fin_r h hg h1 hG1 ok1 (fun _ => hp1 (by decide)) (by simp only [doI, hget, he, if_false]) rfl hK1
theorem Inv.step (hP : Pg G fs) (h : Inv G fs M K) (hg : g < M.gs.length) (h1 : M.st.getD g 0 = 1) : Inv G fs (step fs M g) (K + 1) := (went_any hP h hg h1).inv
/-- An instruction fits the model as it begins. -/
theorem Inv.fit (h : Inv G fs M K) (hK : K < 90000) (hG : M.gs.length < 1000) (hg : g < M.gs.length) (h1 : M.st.getD g 0 = 1) : Fit (doM M g) g := by
  have hs := h.len
  have hG0 := h.gor _ (getD_mem g0 hg)
  have hget : (doM M g).gs.getD g g0 = { M.gs.getD g g0 with pc := (M.gs.getD g g0).pc + 1 } := getD_set_eq hg
  have hob := h.ob
  have htn := h.tn
  have hc1 := h.ck1
  have hw := h.w3
  have htl := h.tml
  have hfew := h.few
  refine ⟨?_, ?_, ?_, ?_, fun k hk => ?_, ?_, ?_, h.ck0, ?_, ?_, ?_, fun j hj hm => ?_, fun j hj => ?_, fun j x T hj hz => ?_⟩
  · show g < (M.gs.set g _).length; rw [List.length_set]; exact hg
  · show (M.gs.set g _).length ≤ 2000; rw [List.length_set]; omega
  · rw [hget]; exact hG0.sk
  · rw [hget]; exact hG0.ct
  · rw [hget]; exact hG0.at_ hk
  · show M.ob.length < 900000; omega
  · show (M.st.set g 2).length ≤ 1024; rw [List.length_set]; exact hfew
  · show M.ck ≤ _; omega
  · show M.tm.length < 1000; omega
  · show M.tn < 1000000; omega
  · obtain ⟨t, e, _, h3⟩ := hw j hj _ hm
    obtain rfl : g = t := by omega
    rw [h1] at h3; exact absurd h3 (by decide)
  · have := h.wl j hj
    show (M.wz j).length < 1000000; omega
  · obtain ⟨t, e, ht, h3⟩ := hw j hj x (by have hz : M.wz j = x :: T := hz; rw [hz]; simp)
    refine ⟨t, e, by show t < (M.st.set g 2).length; rw [List.length_set]; exact ht, ?_⟩
    show St.mayB ((M.st.set g 2).getD t 0) 1 = true
    rw [getD_set_ne (fun e2 => by subst e2; rw [h1] at h3; exact absurd h3 (by decide)), h3]; rfl
variable {B w w' : World} {p : Nat} {q q' : Pl}
/-- Do of one that is runnable. -/
theorem do_step (hM : IsM B w fs p q M) (hP : Pg G fs) (h : Inv G fs M K) (hK : K < 90000) (hG : M.gs.length < 1000) (hg : g < M.gs.length) (h1 : M.st.getD g 0 = 1) : Calls Tryd.prog 6 #[.pointer (some ⟨p, 0, none⟩), .int .i64 g] w (Mt (.tuple #[comM fs M g, .int .i64 0]) B w fs p q (step fs M g)) := by
  have hw := went_any hP h hg h1
  have hG0 := h.gor _ (getD_mem g0 hg)
  have hp0 := h.pc g hg (by rw [h1]; decide)
  have hl64 := (hP.fl _ hG0.f).2
  have hs := h.len
  obtain ⟨op, a, b, c, hx, hfit, hop⟩ := next_fit (r := M.gs.getD g g0) hP hG0.f
  have hout : doI (doM M g) g op a b c = ((outI fs M g).1, (outI fs M g).2.1, (outI fs M g).2.2.1, (outI fs M g).2.2.2) := by unfold outI insAt; rw [hx]; simp only [Int.toNat_natCast]
  have hgl : (doM M g).gl.length = G := h.gl
  have := do_any hM hg rfl (by omega) h1 hG0.f (by omega) hx (M1 := doM M g) rfl (h.fit hK hG hg h1) (by rw [hgl]; exact hfit) hout hw.lt hw.mv
  unfold comM insAt
  rw [hx]
  exact this
end Md
end Go.Proofs.YtdhkakjiahkjnaaDoor
/- The model: what can be reached, and the work list that finds it (by lists alone). -/
namespace Go.Proofs.YtdhkakjiahkjnaaDoor
open Go.RowKit Go.Lib Fx Ho Gr
set_option linter.unusedVariables false
namespace Md
open Cd (Ins zi)
variable {fs : List (List Ins)} {M M' : Mo} {g i e G K N : Nat} {L : List Bool} {T zs : List Int} {z : Int}
/-- What can be reached from globals and from stacks of those that are not dead. -/
inductive Rc (M : Mo) : Nat → Prop
  | gl {z : Int} : z ∈ M.gl → z ≠ 0 → Rc M z.toNat
  | sk {g : Nat} {z : Int} : g < M.st.length → M.st.getD g 0 ≠ 5 → z ∈ (M.gs.getD g g0).sk → z ≠ 0 → Rc M z.toNat
  | ob {i : Nat} {z : Int} : Rc M i → z ∈ M.ob.getD (i - 1) [] → z ≠ 0 → Rc M z.toNat
/-- One is added, if it is not there yet. -/
def add1 (s : List Bool × List Int) (z : Int) : List Bool × List Int := if z = 0 ∨ s.1.getD z.toNat false = true then s else (s.1.set z.toNat true, s.2 ++ [z])
def addL (s : List Bool × List Int) (zs : List Int) : List Bool × List Int := zs.foldl add1 s
theorem addL_next (s : List Bool × List Int) (zs : List Int) (k : Nat) (hk : k < zs.length) : addL s (zs.take (k + 1)) = add1 (addL s (zs.take k)) (zs.getD k 0) := by
  unfold addL
  rw [List.take_add_one, List.getElem?_eq_getElem hk, List.foldl_append, List.getD_eq_getElem?_getD, List.getElem?_eq_getElem hk]; rfl
/-- How many are not known yet. -/
def fc (L : List Bool) : Nat := L.count false
theorem fc_set : ∀ (L : List Bool) (i : Nat), i < L.length → L.getD i false = false → fc (L.set i true) + 1 = fc L
  | [], i, h, _ => by simp at h
  | x :: L, 0, _, h => by
    have h : x = false := h
    subst h
    simp [fc]
  | x :: L, i + 1, h, h2 => by
    have ih := fc_set L i (by simpa using h) h2
    unfold fc at *
    rw [List.set_cons_succ, List.count_cons, List.count_cons]
    omega
theorem fc_le (L : List Bool) : fc L ≤ L.length := List.count_le_length
theorem fc_false (n : Nat) : fc (List.replicate n false) = n := List.count_replicate_self
/-- Where the search stands: L is known, T is to be gone through yet, e is being gone through (0: none). -/
structure Wl (M : Mo) (N : Nat) (L : List Bool) (T : List Int) (e : Nat) : Prop where
  len : L.length = M.ob.length + 1
  zero : L.getD 0 false = false
  todo : ∀ z ∈ T, 1 ≤ z ∧ z ≤ M.ob.length ∧ L.getD z.toNat false = true
  sound : ∀ i, L.getD i false = true → Rc M i
  done : ∀ i, L.getD i false = true → i = e ∨ (i : Int) ∈ T ∨ ∀ z ∈ M.ob.getD (i - 1) [], z ≠ 0 → L.getD z.toNat false = true
  cnt : fc L + T.length ≤ N
theorem Wl.add (h : Wl M N L T e) (h0 : 0 ≤ z ∧ z ≤ M.ob.length) (hr : z ≠ 0 → Rc M z.toNat) : Wl M N (add1 (L, T) z).1 (add1 (L, T) z).2 e ∧ (∀ i, L.getD i false = true → (add1 (L, T) z).1.getD i false = true) ∧ (z ≠ 0 → (add1 (L, T) z).1.getD z.toNat false = true) := by
  unfold add1
  split
  · rename_i hz
    exact ⟨h, fun i hi => hi, fun hne => hz.resolve_left hne⟩
  · rename_i hz
    have hne : z ≠ 0 := fun e => hz (.inl e)
    have hf : L.getD z.toNat false = false := by
      cases hq : L.getD z.toNat false with
      | false => rfl
      | true => exact absurd (.inr hq) hz
    have hl := h.len
    have hlt : z.toNat < L.length := by omega
    have mono : ∀ i, L.getD i false = true → (L.set z.toNat true).getD i false = true := fun i hi => by
      by_cases e2 : z.toNat = i
      · subst e2; exact getD_set_eq hlt
      · rw [getD_set_ne e2]; exact hi
    have self : (L.set z.toNat true).getD z.toNat false = true := getD_set_eq hlt
    have back : ∀ i, (L.set z.toNat true).getD i false = true → L.getD i false = true ∨ i = z.toNat := fun i hi => by
      by_cases e2 : z.toNat = i
      · exact .inr e2.symm
      · rw [getD_set_ne e2] at hi; exact .inl hi
    refine ⟨⟨by show (L.set z.toNat true).length = _; rw [List.length_set]; exact hl, ?_, fun y hy => ?_, fun i hi => ?_, fun i hi => ?_, ?_⟩, mono, fun _ => self⟩
    · show (L.set z.toNat true).getD 0 false = false
      rw [getD_set_ne (by omega)]; exact h.zero
    · rcases List.mem_append.1 hy with e2 | e2
      · have := h.todo y e2
        exact ⟨this.1, this.2.1, mono _ this.2.2⟩
      · rw [List.mem_singleton] at e2
        subst e2
        exact ⟨by omega, h0.2, self⟩
    · rcases back i hi with e2 | e2
      · exact h.sound i e2
      · rw [e2]; exact hr hne
    · rcases back i hi with e2 | e2
      · rcases h.done i e2 with e3 | e3 | e3
        · exact .inl e3
        · exact .inr (.inl (by show (i : Int) ∈ T ++ [z]; simp [e3]))
        · exact .inr (.inr (fun y hy hn => mono _ (e3 y hy hn)))
      · exact .inr (.inl (by show (i : Int) ∈ T ++ [z]; rw [e2, show ((z.toNat : Nat) : Int) = z by omega]; simp))
    · have := fc_set L z.toNat hlt hf
      have := h.cnt
      show fc (L.set z.toNat true) + (T ++ [z]).length ≤ N
      rw [List.length_append, List.length_singleton]; omega
theorem Wl.addL (h : Wl M N L T e) (h0 : ∀ z ∈ zs, 0 ≤ z ∧ z ≤ M.ob.length) (hr : ∀ z ∈ zs, z ≠ 0 → Rc M z.toNat) : Wl M N (addL (L, T) zs).1 (addL (L, T) zs).2 e ∧ (∀ i, L.getD i false = true → (addL (L, T) zs).1.getD i false = true) ∧ (∀ z ∈ zs, z ≠ 0 → (addL (L, T) zs).1.getD z.toNat false = true) := by
  induction zs generalizing L T with
  | nil => exact ⟨h, fun i hi => hi, fun z hz => by cases hz⟩
  | cons y zs ih =>
    obtain ⟨a1, a2, a3⟩ := h.add (h0 y (by simp)) (hr y (by simp))
    obtain ⟨b1, b2, b3⟩ := ih a1 (fun z hz => h0 z (by simp [hz])) (fun z hz => hr z (by simp [hz]))
    refine ⟨b1, fun i hi => b2 i (a2 i hi), fun z hz hn => ?_⟩
    rcases List.mem_cons.1 hz with rfl | hz
    · exact b2 _ (a3 hn)
    · exact b3 z hz hn
theorem Wl.pop {x : Int} (h : Wl M N L (T ++ [x]) 0) : Wl M (N - 1) L T x.toNat ∧ 1 ≤ x ∧ x ≤ M.ob.length ∧ Rc M x.toNat ∧ 1 ≤ N := by
  have hx := h.todo x (by simp)
  have hc := h.cnt
  rw [List.length_append, List.length_singleton] at hc
  refine ⟨⟨h.len, h.zero, fun z hz => h.todo z (by simp [hz]), h.sound, fun i hi => ?_, by omega⟩, hx.1, hx.2.1, h.sound _ hx.2.2, by omega⟩
  rcases h.done i hi with e2 | e2 | e2
  · subst e2
    rw [h.zero] at hi; cases hi
  · rcases List.mem_append.1 e2 with e3 | e3
    · exact .inr (.inl e3)
    · rw [List.mem_singleton] at e3
      exact .inl (by omega)
  · exact .inr (.inr e2)
theorem Wl.fin (h : Wl M N L T e) (hd : ∀ z ∈ M.ob.getD (e - 1) [], z ≠ 0 → L.getD z.toNat false = true) : Wl M N L T 0 :=
  ⟨h.len, h.zero, h.todo, h.sound, fun i hi => (h.done i hi).elim (fun e2 => .inr (.inr (by rw [e2]; exact hd))) .inr, h.cnt⟩
/-- Roots are known. -/
structure Rts (M : Mo) (L : List Bool) : Prop where
  gl : ∀ z ∈ M.gl, z ≠ 0 → L.getD z.toNat false = true
  sk : ∀ g, g < M.st.length → M.st.getD g 0 ≠ 5 → ∀ z ∈ (M.gs.getD g g0).sk, z ≠ 0 → L.getD z.toNat false = true
theorem Wl.whole (h : Wl M N L [] 0) (hr : Rts M L) (i : Nat) : L.getD i false = true ↔ Rc M i := by
  refine ⟨h.sound i, fun hi => ?_⟩
  induction hi with
  | gl h1 h2 => exact hr.gl _ h1 h2
  | sk h1 h2 h3 h4 => exact hr.sk _ h1 h2 _ h3 h4
  | ob _ h2 h3 ih =>
    rcases h.done _ ih with e2 | e2 | e2
    · subst e2
      rw [h.zero] at ih; cases ih
    · cases e2
    · exact e2 _ h2 h3
/-- Those that are known, rising. -/
def rises (L : List Bool) : Nat → List Int
  | 0 => []
  | k + 1 => rises L k ++ (if L.getD k false = true then [(k : Int)] else [])
theorem rises_le (L : List Bool) : ∀ k, (rises L k).length ≤ k
  | 0 => by simp [rises]
  | k + 1 => by
    have := rises_le L k
    unfold rises
    rw [List.length_append]
    split <;> simp <;> omega
theorem mem_rises (L : List Bool) (x : Int) : ∀ k, x ∈ rises L k ↔ ∃ i : Nat, x = (i : Int) ∧ i < k ∧ L.getD i false = true
  | 0 => by simp [rises]
  | k + 1 => by
    have ih := mem_rises L x k
    unfold rises
    rw [List.mem_append, ih]
    constructor
    · rintro (⟨i, e1, e2, e3⟩ | h)
      · exact ⟨i, e1, by omega, e3⟩
      · split at h
        · rename_i hk
          rw [List.mem_singleton] at h
          exact ⟨k, h, by omega, hk⟩
        · cases h
    · rintro ⟨i, e1, e2, e3⟩
      rcases Nat.lt_or_ge i k with e4 | e4
      · exact .inl ⟨i, e1, e4, e3⟩
      · obtain rfl : i = k := by omega
        rw [if_pos e3]
        exact .inr (by simp [e1])
theorem rises_nodup (L : List Bool) : ∀ k, (rises L k).Nodup
  | 0 => by simp [rises]
  | k + 1 => by
    unfold rises
    refine List.nodup_append.2 ⟨rises_nodup L k, by split <;> simp, fun x hx y hy => ?_⟩
    split at hy
    · rw [List.mem_singleton] at hy
      obtain ⟨i, e1, e2, _⟩ := (mem_rises L x k).1 hx
      omega
    · cases hy
theorem rises_same {L L2 : List Bool} (h : ∀ i, L.getD i false = true ↔ L2.getD i false = true) : ∀ k, rises L k = rises L2 k
  | 0 => rfl
  | k + 1 => by
    unfold rises
    rw [rises_same h k]
    by_cases e : L.getD k false = true
    · rw [if_pos e, if_pos ((h k).1 e)]
    · rw [if_neg e, if_neg (fun e2 => e ((h k).2 e2))]
/-- These are the ones that can be reached, rising. -/
def IsReach (M : Mo) (zs : List Int) : Prop := ∃ L : List Bool, L.length = M.ob.length + 1 ∧ L.getD 0 false = false ∧ (∀ i, L.getD i false = true ↔ Rc M i) ∧ zs = rises L L.length
theorem IsReach.mem (h : IsReach M zs) (x : Int) : x ∈ zs ↔ ∃ i : Nat, x = (i : Int) ∧ Rc M i := by
  obtain ⟨L, hl, _, hi, rfl⟩ := h
  rw [mem_rises]
  constructor
  · rintro ⟨i, e1, _, e3⟩
    exact ⟨i, e1, (hi i).1 e3⟩
  · rintro ⟨i, e1, e2⟩
    refine ⟨i, e1, ?_, (hi i).2 e2⟩
    rcases Nat.lt_or_ge i L.length with e3 | e3
    · exact e3
    · have := (hi i).2 e2
      rw [getD_none e3] at this; cases this
theorem IsReach.nodup (h : IsReach M zs) : zs.Nodup := by
  obtain ⟨L, _, _, _, rfl⟩ := h
  exact rises_nodup _ _
theorem IsReach.one {zs' : List Int} (h : IsReach M zs) (h' : IsReach M zs') : zs = zs' := by
  obtain ⟨L, hl, _, hi, rfl⟩ := h
  obtain ⟨L2, hl2, _, hi2, rfl⟩ := h'
  rw [hl, hl2]
  exact rises_same (fun i => (hi i).trans (hi2 i).symm) _
theorem IsReach.len (h : IsReach M zs) : zs.length ≤ M.ob.length + 1 := by
  obtain ⟨L, hl, _, _, rfl⟩ := h
  rw [← hl]; exact rises_le _ _
end Md
end Go.Proofs.YtdhkakjiahkjnaaDoor
/- The model: what can be reached is added to the work list. -/
namespace Go.Proofs.YtdhkakjiahkjnaaDoor
open Go.RowKit Go.Lib Fx Ho Gr
set_option linter.unusedVariables false
namespace Md
variable {w w' W W1 w8 : World} {R n i zn : Nat} {v v1 v2 v8 v2' : Value} {T T' zs : List Int} {L L' : List Bool} {x : Int} {S : Home}
/-- The blocks of the search. -/
def Hr (R : Nat) (v1 v2 : Value) : Home := fun k => k = R ∨ v1.ownBlock = some k ∨ v2.ownBlock = some k
theorem Rq.lt (h : Rq w R v1 v2 L T) {k : Nat} (hk : Hr R v1 v2 k) : k < w.heap.size := by
  rcases hk with rfl | e | e
  · exact block_lt h.head
  · exact h.is.lt e
  · exact h.todo.lt e
theorem Rq.wrote {H H' : Home} (h : Rq w R v1 v2 L T) (hw : Wrote H w H' w') (ho : ∀ k, Hr R v1 v2 k → ¬ H k) : Rq w' R v1 v2 L T :=
  ⟨(hw.block R (block_lt h.head) (ho R (.inl rfl))).trans h.head, h.is.wrote hw (fun k hk => ho k (.inr (.inl hk))), h.todo.wrote hw (fun k hk => ho k (.inr (.inr hk))), h.o1, h.o2, h.o12⟩
theorem Rq.below (h : Rq w R v1 v2 L T) (hb : Below w.heap.size w w') : Rq w' R v1 v2 L T := h.wrote (H := fun _ => False) (Wrote.of_below hb) (fun _ _ h => h)
/-- One is known now. -/
theorem Rq.mark (h : Rq w R v1 v2 L T) (hz : zn < L.length) : ∃ b1 o1 cap, v1 = .slice (some ⟨b1, o1, none⟩) L.length cap ∧ b1 < w.heap.size ∧ w.cell? ⟨b1, o1 + zn, none⟩ = some (.bool (L.getD zn false)) ∧ w.frozen? ⟨b1, o1 + zn, none⟩ = false ∧ Hid (Rq (w.setCell ⟨b1, o1 + zn, none⟩ (.bool true)) R v1 v2 (L.set zn true) T) ∧ Hid (Wrote (Hr R v1 v2) w (Hr R v1 v2) (w.setCell ⟨b1, o1 + zn, none⟩ (.bool true))) := by
  obtain ⟨ao, b1, o1, cap, e, hle, hm, hc, hcell⟩ := h.is.cell
  obtain ⟨rfl, hb, hown⟩ := hc (by omega)
  have hl := h.is.len
  have c := hcell zn (.bool (L.getD zn false)) (by unfold bls; rw [List.getElem?_map, List.getElem?_eq_getElem hz, List.getD_eq_getElem?_getD, List.getElem?_eq_getElem hz]; rfl)
  have hw1 : Wrote (fun k => k = b1) w (fun k => k = b1) (w.setCell ⟨b1, o1 + zn, none⟩ (.bool true)) := wrote_setCell (a := ⟨b1, o1 + zn, none⟩) rfl rfl rfl rfl rfl
  have hw : Wrote (Hr R v1 v2) w (Hr R v1 v2) (w.setCell ⟨b1, o1 + zn, none⟩ (.bool true)) := wrote_setCell (a := ⟨b1, o1 + zn, none⟩) rfl rfl rfl rfl (.inr (.inl hown))
  have hbR : b1 ≠ R := fun e2 => h.o1 (by rw [hown, e2])
  refine ⟨b1, o1, cap, e, hb, c.1, c.2, Lib.hid ⟨(hw1.block R (block_lt h.head) (fun e2 => hbR e2.symm)).trans h.head, ?_, h.todo.wrote hw1 (fun k hk e2 => ?_), h.o1, h.o2, h.o12⟩, Lib.hid hw⟩
  · have h2 := h.is
    rw [e] at h2 ⊢
    have h3 := h2.set (j := zn) (u := .bool true) (by omega)
    rw [List.length_set]
    unfold bls
    rw [List.map_set]
    exact h3
  · have e2 : k = b1 := e2
    subst e2
    exact h.o12 k hown hk
/-- One is to be gone through. -/
theorem Rq.push (h : Rq W R v1 v2 L T) (hb : Below W.heap.size W W1) (hrow : GRow 1 w8 v8 (T.length + 1) (cells T ++ [.int .i64 x])) (hw : Wrote (fun k => v2.ownBlock = some k) W1 (fun k => v8.ownBlock = some k) w8) : w8.cell? ⟨R, 1, none⟩ = some v2 ∧ w8.frozen? ⟨R, 1, none⟩ = false ∧ Hid (Rq (w8.setCell ⟨R, 1, none⟩ v8) R v1 v8 L (T ++ [x])) ∧ Hid (Wrote (Hr R v1 v2) W (Hr R v1 v8) (w8.setCell ⟨R, 1, none⟩ v8)) := by
  have h1 := h.below hb
  have hR := block_lt h.head
  have hsz := hb.size
  have hR8 : w8.heap[R]? = _ := (hw.block R (by omega) (fun e => h.o2 e)).trans h1.head
  have hv8 : v8.ownBlock ≠ some R := fun e => (hw.home R e).elim h.o2 (fun e2 => by omega)
  have h12 : ∀ k, v1.ownBlock = some k → v8.ownBlock ≠ some k := fun k hk e => (hw.home k e).elim (h.o12 k hk) (fun e2 => by have := h.is.lt hk; omega)
  have w2 : Wrote (fun k => k = R) w8 (fun k => k = R) (w8.setCell ⟨R, 1, none⟩ v8) := wrote_setCell (a := ⟨R, 1, none⟩) rfl rfl rfl rfl rfl
  refine ⟨cell_of hR8 rfl, frozen_of_row _ _ _ _ _ hR8, Lib.hid ⟨by rw [heap_setCell_same _ R 1 _ _ v8 hR8]; rfl, (h1.is.wrote hw (fun k hk => h.o12 k hk)).wrote w2 (fun k hk e => h.o1 (by rw [hk, e])), ?_, h.o1, hv8, h12⟩, Lib.hid ⟨?_, ?_, ?_, ?_, fun k hk hn => ?_, fun k hk => ?_⟩⟩
  · rw [List.length_append, List.length_singleton, cells_app]
    exact hrow.wrote w2 (fun k hk e => hv8 (by rw [hk, e]))
  · exact w2.os.trans (hw.os.trans hb.os)
  · exact w2.tape.trans (hw.tape.trans hb.tape)
  · exact w2.output.trans (hw.output.trans hb.output)
  · have := hw.size; have := w2.size; omega
  · have := hw.size
    exact (w2.block k (by omega) (fun e => hn (.inl e))).trans ((hw.block k (by omega) (fun e => hn (.inr (.inr e)))).trans (hb.block k hk))
  · rcases hk with e | e | e
    · exact .inl (.inl e)
    · exact .inl (.inr (.inl e))
    · exact (hw.home k e).imp (fun e => .inr (.inr e)) (fun e => by omega)
/-- Where the loop of add stands. -/
structure Ra (w wr : World) (R : Nat) (v1 v2 v2' : Value) (L : List Bool) (T zs : List Int) (i : Nat) : Prop where
  rq : Rq wr R v1 v2' (addL (L, T) (zs.take i)).1 (addL (L, T) (zs.take i)).2
  wr : Wrote (Hr R v1 v2) w (Hr R v1 v2') wr
  n : fc (addL (L, T) (zs.take i)).1 + (addL (L, T) (zs.take i)).2.length ≤ 900000
  ln : (addL (L, T) (zs.take i)).1.length = L.length
theorem ra_skip {wr : World} (h : Ra w wr R v1 v2 v2' L T zs i) (hi : i < zs.length) (hz : zs.getD i 0 = 0 ∨ (addL (L, T) (zs.take i)).1.getD (zs.getD i 0).toNat false = true) : Ra w wr R v1 v2 v2' L T zs (i + 1) := by
  have e : addL (L, T) (zs.take (i + 1)) = addL (L, T) (zs.take i) := by rw [addL_next _ _ _ hi]; unfold add1; rw [if_pos hz]
  exact ⟨by rw [e]; exact h.rq, h.wr, by rw [e]; exact h.n, by rw [e]; exact h.ln⟩
theorem ra_put {wr : World} (h : Ra w wr R v1 v2 v2' L T zs i) (hi : i < zs.length) (hz : ¬ (zs.getD i 0 = 0 ∨ (addL (L, T) (zs.take i)).1.getD (zs.getD i 0).toNat false = true)) (hlt : (zs.getD i 0).toNat < L.length) (hw : Wrote (Hr R v1 v2') wr (Hr R v1 v8) w') (hr : Rq w' R v1 v8 ((addL (L, T) (zs.take i)).1.set (zs.getD i 0).toNat true) ((addL (L, T) (zs.take i)).2 ++ [zs.getD i 0])) : Ra w w' R v1 v2 v8 L T zs (i + 1) := by
  have e : addL (L, T) (zs.take (i + 1)) = ((addL (L, T) (zs.take i)).1.set (zs.getD i 0).toNat true, (addL (L, T) (zs.take i)).2 ++ [zs.getD i 0]) := by rw [addL_next _ _ _ hi]; unfold add1; rw [if_neg hz]
  have hf : (addL (L, T) (zs.take i)).1.getD (zs.getD i 0).toNat false = false := by
    cases hq : (addL (L, T) (zs.take i)).1.getD (zs.getD i 0).toNat false with
    | false => rfl
    | true => exact absurd (.inr hq) hz
  have hfc := fc_set _ _ (by rw [h.ln]; exact hlt) hf
  have hn := h.n
  exact ⟨by rw [e]; exact hr, h.wr.trans hw, by rw [e]; show fc (List.set _ _ _) + (_ ++ [_]).length ≤ 900000; rw [List.length_append, List.length_singleton]; omega, by rw [e]; show (List.set _ _ _).length = _; rw [List.length_set]; exact h.ln⟩
/-- What add leaves. -/
def AddR (w : World) (R : Nat) (v1 v2 : Value) (s : List Bool × List Int) (e : Ending) (w' : World) : Prop := e = .returned (.tuple #[]) ∧ ∃ v2', Rq w' R v1 v2' s.1 s.2 ∧ Wrote (Hr R v1 v2) w (Hr R v1 v2') w'
set_option maxRecDepth 100000 in
set_option maxHeartbeats 4000000 in
theorem radd_any (h : Rq w R v1 v2 L T) (hv : Ints w S v zs) (hS : ∀ k, S k → ¬ Hr R v1 v2 k) (hz : ∀ z ∈ zs, 0 ≤ z ∧ z < L.length) (hn : fc L + T.length ≤ 900000) (hlL : L.length ≤ 900000) : Calls Tryd.prog 34 #[.pointer (some ⟨R, 0, none⟩), v] w (AddR w R v1 v2 (addL (L, T) zs)) := by
  have hv0 := Lib.hid hv
  obtain ⟨sp, cap, rfl, hmx, hcell⟩ := hv
  obtain ⟨n, hn0⟩ : ∃ n, zs.length = n := ⟨_, rfl⟩
  have hat : Hid (∀ i, i < n → ∀ wr v2', Wrote (Hr R v1 v2) w (Hr R v1 v2') wr → ∃ b off, sp = some ⟨b, off, none⟩ ∧ wr.cell? ⟨b, off + i, none⟩ = some (.int .i64 (zs.getD i 0))) := Lib.hid fun i hi wr v2' hw => by
    obtain ⟨b, off, e, hb, _, hc⟩ := hcell i (by omega)
    exact ⟨b, off, e, hw.cell hc (hS b hb)⟩
  have hzz : Hid (∀ i, i < n → 0 ≤ zs.getD i 0 ∧ zs.getD i 0 < L.length) := Lib.hid fun i hi => hz _ (getD_mem 0 (by omega))
  have st : Hid (Ra w w R v1 v2 v2 L T zs 0) := Lib.hid ⟨h, Wrote.refl _ _, hn, rfl⟩
  have hfin : Hid (∀ W v2', Ra w W R v1 v2 v2' L T zs n → AddR w R v1 v2 (addL (L, T) zs) (.returned (.tuple #[])) W) := Lib.hid fun W v2' hra => by
    have h1 := hra.rq
    rw [List.take_of_length_le (by omega)] at h1
    exact ⟨rfl, v2', h1, hra.wr⟩
  rw [hn0] at hmx ⊢
  replace hn0 := Lib.hid hn0
  clear h hv0 hcell hS hz hn
  go_enter Tryd.func34, Tryd.ntmps34
  go_wp2_with fail
  go_loopw [8] (fun u wr => ∃ (i : Nat) (v2' : Value), u = .int .i64 i ∧ i ≤ n ∧ Hid (Ra w wr R v1 v2 v2' L T zs i)) (fun u _ => (n - (RowKit.intOf u).toNat))
  case atStart => exact ⟨0, v2, rfl, by omega, st⟩
  case round =>
    obtain ⟨i, v2', rfl, hi, hra⟩ := hrel
    by_cases hlt : i < n
    · obtain ⟨b, off, rfl, cz⟩ := hat.out i hlt wr v2' hra.out.wr
      obtain ⟨z0, z1⟩ := hzz.out i hlt
      have i2 : (i : Int) < (n : Int) := by omega
      have i0 : (0 : Int) ≤ (i : Int) := by omega
      have hiz : i < zs.length := by rw [hn0.out]; exact hlt
      obtain ⟨z, hze⟩ : ∃ z, zs.getD i 0 = z := ⟨_, rfl⟩
      rw [hze] at cz z0 z1
      by_cases hz0 : z = 0
      · have hnx := Lib.hid (ra_skip hra.out hiz (.inl (by rw [hze, hz0])))
        subst hz0
        clear hra hze
        go_wp2_with fail
        go_roundw
        case rel => exact ⟨i + 1, v2', by go_num, by omega, hnx⟩
        case measure => simp [RowKit.intOf]; omega
      · obtain ⟨zn, rfl⟩ := Int.eq_ofNat_of_zero_le z0
        have hzt : (zs.getD i 0).toNat = zn := by rw [hze]; rfl
        have hzl : zn < (addL (L, T) (zs.take i)).1.length := by rw [hra.out.ln]; omega
        obtain ⟨b1, o1, cap1, ev1, hb1, cz1, fz1, hrq1, hwr1⟩ := hra.out.rq.mark hzl
        have c0 : wr.cell? ⟨R, 0, none⟩ = some v1 := cell_of hra.out.rq.head rfl
        rw [hra.out.ln] at ev1
        have zb1 : decide ((zn : Int) = 0) = false := decide_eq_false hz0
        have zb2 : ((zn : Int) == 0) = false := beq_eq_false_iff_ne.2 hz0
        by_cases hk : (addL (L, T) (zs.take i)).1.getD zn false = true
        · have hnx := Lib.hid (ra_skip hra.out hiz (.inr (by rw [hzt]; exact hk)))
          rw [hk] at cz1
          rw [ev1] at c0
          replace hnx : Hid (Ra w wr R v1 v2 v2' L T zs (i + 1)) := hnx
          clear hra hze hrq1 hwr1 fz1 hk hzl hzt ev1
          go_wp2_with fail
          go_roundw
          case rel => exact ⟨i + 1, v2', by go_num, by omega, hnx⟩
          case measure => simp [RowKit.intOf]; omega
        · have hnk : ¬ (zs.getD i 0 = 0 ∨ (addL (L, T) (zs.take i)).1.getD (zs.getD i 0).toNat false = true) := fun e => by
            rw [hzt, hze] at e
            exact e.elim hz0 hk
          have hk2 : (addL (L, T) (zs.take i)).1.getD zn false = false := by
            cases hq : (addL (L, T) (zs.take i)).1.getD zn false with
            | false => rfl
            | true => exact absurd hq hk
          rw [hk2] at cz1
          obtain ⟨W, hW⟩ : ∃ W, wr.setCell ⟨b1, o1 + zn, none⟩ (.bool true) = W := ⟨_, rfl⟩
          rw [hW] at hrq1 hwr1
          obtain ⟨T1, hT1⟩ : ∃ T1, (addL (L, T) (zs.take i)).2 = T1 := ⟨_, rfl⟩
          obtain ⟨L1, hL1⟩ : ∃ L1, (addL (L, T) (zs.take i)).1.set zn true = L1 := ⟨_, rfl⟩
          have hrq2 := hrq1
          rw [hT1, hL1] at hrq2
          obtain ⟨s2, c2, e2⟩ := hrq2.out.todo.slice
          have c1 : W.cell? ⟨R, 1, none⟩ = some v2' := cell_of hrq2.out.head rfl
          rw [e2] at c1
          have hbd : T1.length + 1 ≤ 1000000 := by have := hra.out.n; rw [hT1] at this; omega
          have hrow : Hid (GRow 1 (W.alloc (.cells #[.int .i64 (zn : Int)] 3)) (.slice s2 T1.length c2) T1.length (cells T1)) := Lib.hid (by have := hrq2.out.todo.below (below_alloc (Below.refl W.heap.size W) (.cells #[.int .i64 (zn : Int)] 3)); rw [e2] at this; exact this)
          have hsrc := Lib.hid (Pt.src_int (zn : Int) W)
          have key : Hid (∀ u8 w8, GRow 1 w8 u8 (T1.length + 1) (cells T1 ++ [.int .i64 (zn : Int)]) → Wrote (fun k => (Value.slice s2 T1.length c2).ownBlock = some k) (W.alloc (.cells #[.int .i64 (zn : Int)] 3)) (fun k => u8.ownBlock = some k) w8 → (∃ s c, u8 = .slice s (T1.length + 1) c) ∧ w8.cell? ⟨R, 1, none⟩ = some (.slice s2 T1.length c2) ∧ w8.frozen? ⟨R, 1, none⟩ = false ∧ Hid (Ra w (w8.setCell ⟨R, 1, none⟩ u8) R v1 v2 u8 L T zs (i + 1))) := Lib.hid fun u8 w8 g1 g2 => by
            obtain ⟨k0, k1, k2, k3⟩ := hrq2.out.push (below_alloc (Below.refl W.heap.size W) (.cells #[.int .i64 (zn : Int)] 3)) g1 (by rw [e2]; exact g2)
            rw [e2] at k0
            refine ⟨g1.slice, k0, k1, Lib.hid (ra_put hra.out hiz hnk (by rw [hzt]; omega) (hwr1.out.trans k3.out) ?_)⟩
            rw [hzt, hze, hT1, hL1]
            exact k2.out
          rw [ev1] at c0
          clear hra hze hrq1 hwr1 hk hzl hzt ev1 hnk hk2 hrq2 hT1 hL1 e2
          go_upto_region 5 with fail
          try rw [hW]
          clear hW
          generalize T1.length = t1 at *
          go_wp2_with (at_builtin; refine wpList_append_g rfl (.tmp 34) (.tmp 36) rfl rfl Pt.eltI hrow.out rfl rfl hsrc.out hbd ?_; intro u8 w8 g1 g2; have hk := key.out u8 w8 g1 g2; obtain ⟨⟨s8, c8, rfl⟩, hc8, hf8, hnx⟩ := hk; clear key g1 g2 hrow hsrc)
          go_roundw
          case rel => exact ⟨i + 1, _, by go_num, by omega, hnx⟩
          case measure => simp [RowKit.intOf]; omega
    · obtain rfl : i = n := by omega
      have hf := Lib.hid (hfin.out wr v2' hra.out)
      clear hra
      go_wp2_with fail
      go_end0
      exact hf.out
end Md
end Go.Proofs.YtdhkakjiahkjnaaDoor
/- The model: ticks go by. -/
namespace Go.Proofs.YtdhkakjiahkjnaaDoor
open Go.RowKit Go.Lib Fx Ho Gr
set_option linter.unusedVariables false
namespace Md
open Cd (Ins zi ca c4)
variable {B w w' : World} {fs : List (List Ins)} {p : Nat} {q q' : Pl} {M M' : Mo} {H H' : Home} {g a b c n i G K : Nat} {r : Gor}
/-- What Due leaves of the model. -/
def DueM (B w : World) (fs : List (List Ins)) (p : Nat) (q : Pl) (M : Mo) (x : Int) (e : Ending) (w' : World) : Prop := ∃ v D T q', e = .returned v ∧ Tn B w fs p q w' q' { M with tm := T } ∧ Ints w' (fun k => w.heap.size ≤ k ∧ ∀ i, i < 8 → ¬ hm p q' i k) v (D.map (·.2.1)) ∧ Pt.Ds M.tm D T ∧ (∀ s ∈ D, s.1 ≤ x) ∧ (∀ s ∈ T, x < s.1)
theorem m_due (h : IsM B w fs p q M) (x : Int) : Calls Tryd.prog 18 #[.pointer (some ⟨q.pt, 0, none⟩), .int .i64 x] w (DueM B w fs p q M x) :=
  (Pt.duef_any (B := B) h.p2.1 (fun k hk => (h.ap.low 2 k (by omega) hk).1) h.bel x).mono fun e w' ⟨v, D, T, v', he, hf, hT⟩ => by
    have hw : Wrote (Pt.home2 q.pt q.tv) w (Pt.home2 q.pt v') w' := hf.fr.same (fun k hk => .inl hk)
    have h1 := hf.ti
    have hl : ∀ k, Pt.home2 q.pt v' k → k < w'.heap.size := fun k hk => hk.elim (fun e => e ▸ h1.tm.pile.lt) (fun e => h1.tm.pile.row.lt e)
    have his := h.setT hw h1 (List.Perm.refl _) hl
    have hTn : Tn B w fs p q w' { q with tv := v', Mt := T } { M with tm := T, tn := M.tn } := tn_of 2 h.bel.size ⟨rfl, rfl, rfl⟩ (by omega) hw his (fun j k hj hn hk => by
      rcases (show j = 0 ∨ j = 1 ∨ j = 2 ∨ j = 3 ∨ j = 4 ∨ j = 5 ∨ j = 6 ∨ j = 7 by omega) with rfl | rfl | rfl | rfl | rfl | rfl | rfl | rfl <;> first | exact hk | exact absurd rfl hn)
    refine ⟨v, D, T, _, he, hTn, (Pt.ints_row hf.row).wider (fun k hk _ => ⟨hf.un k hk, fun i hi hh => ?_⟩), hf.dw.ds.of_perm h.p2.2, hf.dw.le, hT⟩
    have hnew := hf.un k hk
    by_cases e2 : i = 2
    · subst e2; exact hf.off k hk hh
    · have h2 : hm p q i k := by
        rcases (show i = 0 ∨ i = 1 ∨ i = 2 ∨ i = 3 ∨ i = 4 ∨ i = 5 ∨ i = 6 ∨ i = 7 by omega) with rfl | rfl | rfl | rfl | rfl | rfl | rfl | rfl <;> first | exact hh | exact absurd rfl e2
      have := (h.ap.low i k hi h2).2
      omega
/-- The clock is stored. -/
theorem IsM.clk (h : IsM B w fs p q M) (x : Int) : w.cell? ⟨p, 6, none⟩ = some (.int .i64 M.ck) ∧ w.frozen? ⟨p, 6, none⟩ = false ∧ Hid (Tn B w fs p q (w.setCell ⟨p, 6, none⟩ (.int .i64 x)) q { M with ck := x }) :=
  ⟨cell_of h.p0 rfl, frozen_of_row _ _ _ _ _ h.p0, Lib.hid (tn_in h (h.setC (wrote_setCell (a := ⟨p, 6, none⟩) rfl rfl rfl rfl rfl) (by show (w.setCell ⟨p, 6, none⟩ (.int .i64 x)).heap[p]? = _; rw [heap_setCell_same _ p 6 _ _ _ h.p0]; rfl)) 0 (by omega) (wrote_setCell (a := ⟨p, 6, none⟩) rfl rfl rfl rfl rfl))⟩
theorem wakeAll_app (x : Int) : ∀ (l st : List Int), wakeAll st (l ++ [x]) = (wakeAll st l).set x.toNat 1
  | [], st => rfl
  | y :: l, st => wakeAll_app x l (st.set y.toNat 1)
theorem wakeAll_next (ds st : List Int) (k : Nat) (hk : k < ds.length) : wakeAll st (ds.take (k + 1)) = (wakeAll st (ds.take k)).set (ds.getD k 0).toNat 1 := by
  rw [List.take_add_one, List.getElem?_eq_getElem hk, List.getD_eq_getElem?_getD, List.getElem?_eq_getElem hk]
  exact wakeAll_app _ _ _
/-- What a tick makes of the model. -/
def tickM (M : Mo) (x : Int) (D T : List Sl) : Mo := { M with ck := x, tm := T, st := wakeAll M.st (D.map (·.2.1)) }
def TickR (B w : World) (fs : List (List Ins)) (p : Nat) (q : Pl) (M : Mo) (x : Int) (e : Ending) (w' : World) : Prop := ∃ v D T q', e = .returned v ∧ Tn B w fs p q w' q' (tickM M x D T) ∧ Ints w' (fun k => w.heap.size ≤ k ∧ ∀ i, i < 8 → ¬ hm p q' i k) v (D.map (·.2.1)) ∧ Pt.Ds M.tm D T ∧ (∀ s ∈ D, s.1 ≤ x) ∧ (∀ s ∈ T, x < s.1)
theorem Ints.turned {v : Value} {zs : List Int} {wr : World} {q2 : Pl} {M2 : Mo} {N : Nat} (h : Ints w (fun k => N ≤ k ∧ ∀ i, i < 8 → ¬ hm p q i k) v zs) (hT : Tn B w fs p q wr q2 M2) : Ints wr (fun k => N ≤ k ∧ ∀ i, i < 8 → ¬ hm p q2 i k) v zs := by
  obtain ⟨sp, cap, e, hm', hc⟩ := h
  refine ⟨sp, cap, e, hm', fun i hi => ?_⟩
  obtain ⟨b, off, e2, ⟨hb1, hb2⟩, hb, hc2⟩ := hc i hi
  refine ⟨b, off, e2, ⟨hb1, fun j hj hh => (hT.nx j b hj hh).elim (fun ⟨j2, hj2, h2⟩ => hb2 j2 hj2 h2) (fun e => by omega)⟩, Nat.lt_of_lt_of_le hb hT.size, ?_⟩
  rw [World.cell?_of_block (a := ⟨b, off + i, none⟩) (hT.keep b hb hb2)]; exact hc2
set_option maxRecDepth 100000 in
set_option maxHeartbeats 4000000 in
theorem tick_any (h : IsM B w fs p q M) (hI : Inv G fs M K) (hK : K ≤ 90000) (x : Int) (m : Nat) (hm0 : m = x.toNat) (hmb : m ≤ 1000000) : Calls Tryd.prog 9 #[.pointer (some ⟨p, 0, none⟩), .int .i64 x] w (TickR B w fs p q M (M.ck + m)) := by
  obtain ⟨c6, f6, hT1⟩ := h.clk (M.ck + (m : Int))
  have hk0 := hI.ck0
  have hk1 := hI.ck1
  have hmax : max x 0 = (m : Int) := by omega
  have cl := later_any M.ck m hI.ck0 (by omega) (by omega)
  obtain ⟨W1, hW1⟩ : ∃ W, w.setCell ⟨p, 6, none⟩ (.int .i64 (M.ck + (m : Int))) = W := ⟨_, rfl⟩
  rw [hW1] at hT1
  obtain ⟨x2, hx2⟩ : ∃ x2, M.ck + (m : Int) = x2 := ⟨_, rfl⟩
  rw [hx2] at hT1 hW1 cl ⊢
  have d4 : W1.cell? ⟨p, 4, none⟩ = some (.pointer (some ⟨q.pt, 0, none⟩)) := cell_of hT1.out.is.p0 rfl
  have d6 : W1.cell? ⟨p, 6, none⟩ = some (.int .i64 x2) := cell_of hT1.out.is.p0 rfl
  have cd : Hid (∀ V, Below W1.heap.size W1 V → Calls Tryd.prog 18 #[.pointer (some ⟨q.pt, 0, none⟩), .int .i64 x2] V (fun e wz => ∃ (sp : Option Addr) (cap : Nat) (ds : List Int), e = .returned (.slice sp ds.length cap) ∧ (wz.cell? ⟨p, 4, none⟩ = some (.pointer (some ⟨q.pt, 0, none⟩)) ∧ wz.cell? ⟨p, 6, none⟩ = some (.int .i64 x2)) ∧ Hid (∃ D T q', D.map (·.2.1) = ds ∧ Tn B w fs p q wz q' { M with ck := x2, tm := T } ∧ Ints wz (fun k => w.heap.size ≤ k ∧ ∀ i, i < 8 → ¬ hm p q' i k) (.slice sp ds.length cap) ds ∧ Pt.Ds M.tm D T ∧ (∀ s ∈ D, s.1 ≤ x2) ∧ (∀ s ∈ T, x2 < s.1)))) := Lib.hid fun V hV => (m_due (hT1.out.is.below hV) x2).mono fun e wz ⟨v, D, T, q', he, hT, hi, hd, h1, h2⟩ => by
    have hTU := hT1.out.trans ((tn_below hT1.out.is hV).trans hT)
    obtain ⟨sp, cap, ev, h3, h4⟩ := hi
    subst ev
    refine ⟨sp, cap, D.map (·.2.1), he, ⟨?_, cell_of hT.is.p0 rfl⟩, Lib.hid ⟨D, T, q', rfl, hTU, ⟨sp, cap, rfl, h3, fun i hi2 => ?_⟩, hd, h1, h2⟩⟩
    · have := cell_of hT.is.p0 (j := 4) rfl
      rw [← hT.pls.2.1]; exact this
    · obtain ⟨b, off, e2, ⟨hb1, hb2⟩, hb, hc⟩ := h4 i hi2
      exact ⟨b, off, e2, ⟨by have := hV.size; have := hT1.out.size; omega, hb2⟩, hb, hc⟩
  have h3 := Lib.hid hI.t3
  have hnd := Lib.hid hI.tnd
  have hlen := hI.len
  replace hT1 := hT1
  clear h hI hk0 hk1 hx2
  go_enter Tryd.func9, Tryd.ntmps9
  rw [← hmax] at cl
  clear hmax hm0
  go_wp2_with fail
  with_reducible refine Calls.mono (cl _) ?_
  rintro e w0 ⟨rfl, rfl⟩
  clear cl
  go_upto_region 4 with fail
  try rw [hW1]
  clear hW1 c6 f6
  go_region_held3 (fun W' => W'.cell? ⟨p, 4, none⟩ = some (.pointer (some ⟨q.pt, 0, none⟩)) ∧ W'.cell? ⟨p, 6, none⟩ = some (.int .i64 x2)) (first | exact ⟨d4, d6⟩ | go_keep | assumption) ((go_at_call 18; ((with_reducible refine (cd.out _ (by repeat (first | exact Below.refl _ _ | refine below_drewN ?_ _ | refine Below.drew ?_))).mono ?_); rintro e wz ⟨sp, cap, ds, rfl, hkz, hT0⟩)))
  obtain ⟨D, T, q2, hDe, hT, hi, hd, hd1, hd2⟩ := hT0.out
  clear hkz hT0 cd d4 d6 hT1
  have hmem : ∀ s ∈ D, s ∈ M.tm := fun s hs => hd.perm.mem_iff.1 (by simp [hs])
  have hds3 : Hid (∀ y ∈ ds, ∃ t : Nat, y = (t : Int) ∧ t < M.st.length ∧ M.st.getD t 0 = 3) := Lib.hid fun y hy => by
    rw [← hDe] at hy
    obtain ⟨s, hs, rfl⟩ := List.mem_map.1 hy
    exact h3.out s (hmem s hs)
  have hdsn : Hid ds.Nodup := Lib.hid (by
    have := (hd.perm.map (·.2.1)).nodup_iff.2 hnd.out
    rw [List.map_append, List.nodup_append, hDe] at this
    exact this.1)
  have hfin : Hid (∀ W' q', Tn B w fs p q W' q' { M with ck := x2, tm := T, st := wakeAll M.st ds } → Ints W' (fun k => w.heap.size ≤ k ∧ ∀ i, i < 8 → ¬ hm p q' i k) (.slice sp ds.length cap) ds → TickR B w fs p q M x2 (.returned (.slice sp ds.length cap)) W') := Lib.hid fun W' q' h1 h2 => ⟨_, D, T, q', rfl, by unfold tickM; rw [hDe]; exact h1, by rw [hDe]; exact h2, hd, hd1, hd2⟩
  have st : Hid (∃ q', Tn B w fs p q wz q' { M with ck := x2, tm := T, st := wakeAll M.st (ds.take 0) } ∧ Ints wz (fun k => w.heap.size ≤ k ∧ ∀ i, i < 8 → ¬ hm p q' i k) (.slice sp ds.length cap) ds) := Lib.hid ⟨q2, hT, hi⟩
  have hlb : ds.length ≤ 9223372036854775807 := by obtain ⟨_, _, _, hb, _⟩ := hi; exact hb
  clear hT hi hd hd1 hd2 hmem hDe h3 hnd
  obtain ⟨n, hn⟩ : ∃ n, ds.length = n := ⟨_, rfl⟩
  rw [hn] at hfin st hlb ⊢
  replace hn := Lib.hid hn
  go_wp2_with fail
  go_loopw [31] (fun u wr => ∃ i : Nat, u = .int .i64 i ∧ i ≤ n ∧ Hid (∃ q', Tn B w fs p q wr q' { M with ck := x2, tm := T, st := wakeAll M.st (ds.take i) } ∧ Ints wr (fun k => w.heap.size ≤ k ∧ ∀ i, i < 8 → ¬ hm p q' i k) (.slice sp n cap) ds)) (fun u _ => (n - (RowKit.intOf u).toNat))
  case atStart => exact ⟨0, rfl, by omega, st⟩
  case round =>
    obtain ⟨i, rfl, hin, hr0⟩ := hrel
    obtain ⟨q3, hT3, hi3⟩ := hr0.out
    clear st
    by_cases hlt : i < n
    · have hl0 : i < ds.length := by rw [hn.out]; exact hlt
      obtain ⟨sp', cap', ev, _, hc⟩ := id hi3
      have e1 : sp' = sp := by injection ev with e1 e2 e3; exact e1.symm
      subst e1
      clear ev cap'
      obtain ⟨b, off, rfl, _, _, cz⟩ := hc i hl0
      obtain ⟨t, ht, htl, ht3⟩ := hds3.out _ (getD_mem 0 hl0)
      have hnt : (t : Int) ∉ ds.take i := fun hm => by
        have h4 := hdsn.out
        rw [← List.take_append_drop i ds, List.nodup_append] at h4
        refine h4.2.2 _ hm (t : Int) ?_ rfl
        rw [← ht, List.getD_eq_getElem?_getD, List.getElem?_eq_getElem hl0]
        exact List.mem_drop_iff_getElem.2 ⟨0, by omega, by simp⟩
      have hpos : ∀ y ∈ ds.take i, (0 : Int) ≤ y := fun y hy => by
        obtain ⟨u, e, _⟩ := hds3.out y (List.mem_of_mem_take hy)
        omega
      have hst : (wakeAll M.st (ds.take i)).getD t 0 = 3 := by rw [wakeAll_out _ _ _ hpos hnt]; exact ht3
      have cm := m_move hT3.is (g := t) (by show t < (wakeAll M.st (ds.take i)).length; rw [wakeAll_len]; exact htl) 1 (by show St.mayB ((wakeAll M.st (ds.take i)).getD t 0) 1 = true; rw [hst]; rfl)
      have c3 : wr.cell? ⟨p, 3, none⟩ = some (.pointer (some ⟨q3.ps, 0, none⟩)) := cell_of hT3.is.p0 rfl
      rw [ht] at cz
      have hnx : Hid (∀ W', Mt (.int .i64 0) B wr fs p q3 { M with ck := x2, tm := T, st := (wakeAll M.st (ds.take i)).set t 1 } (.returned (.int .i64 0)) W' → Hid (∃ q', Tn B w fs p q W' q' { M with ck := x2, tm := T, st := wakeAll M.st (ds.take (i + 1)) } ∧ Ints W' (fun k => w.heap.size ≤ k ∧ ∀ i, i < 8 → ¬ hm p q' i k) (.slice (some ⟨b, off, none⟩) n cap) ds)) := Lib.hid fun W' ⟨_, q4, h4⟩ => Lib.hid ⟨q4, by rw [wakeAll_next _ _ _ hl0, ht, Int.toNat_natCast]; exact hT3.trans h4, Ints.turned hi3 h4⟩
      have i2 : (i : Int) < (n : Int) := by omega
      have i0 : (0 : Int) ≤ (i : Int) := by omega
      clear hr0 hT3 hi3 hc ht ht3 hnt hpos hst hl0 hfin
      go_wp2_with fail
      with_reducible refine Calls.mono cm ?_
      rintro e w4 ⟨rfl, hq4⟩
      have hnx2 := hnx.out w4 ⟨rfl, hq4⟩
      clear cm hq4 hnx c3 cz
      go_wp2_with fail
      go_roundw
      case rel => exact ⟨i + 1, by go_num, by omega, hnx2⟩
      case measure => simp [RowKit.intOf]; omega
    · obtain rfl : i = n := by omega
      have hf := Lib.hid (hfin.out wr q3 (by rw [List.take_of_length_le (by rw [hn.out]; exact Nat.le_refl _)] at hT3; exact hT3) hi3)
      clear hr0 hT3 hi3 hfin
      go_wp2_with fail
      go_ret
      exact hf.out
end Md
end Go.Proofs.YtdhkakjiahkjnaaDoor
/- The model: Reach. -/
namespace Go.Proofs.YtdhkakjiahkjnaaDoor
open Go.RowKit Go.Lib Fx Ho Gr
set_option linter.unusedVariables false
namespace Md
open Cd (Ins zi ca c4)
variable {B w w' wr : World} {fs : List (List Ins)} {p : Nat} {q q' : Pl} {M M' : Mo} {g a b c n i e G K R N : Nat} {v v1 v2 : Value} {L : List Bool} {T zs : List Int}
theorem made_bools (n : Nat) : madeCells #[Value.bool false] n = (bls (List.replicate n false)).toArray := by
  unfold madeCells bls
  apply Array.ext'
  simp only [List.map_replicate, Array.toList_map, Array.toList_range]
  refine List.ext_getElem (by simp) fun i h1 h2 => ?_
  simp [Nat.mod_one]
theorem grow_bools {W : World} {K : Nat} {zs : List Bool} {e : TypeId} (hb : W.heap[K]? = some (.cells (bls zs).toArray e (0, 0))) (hz : zs.length ≤ 1000000) : GRow 1 W (.slice (some ⟨K, 0, none⟩) zs.length zs.length) zs.length (bls zs) := by
  have hmx : (1000000 : Nat) ≤ maxLen := by unfold maxLen; omega
  have hl : (bls zs).length = zs.length := List.length_map ..
  refine ⟨_, K, 0, zs.length, rfl, ⟨Nat.le_refl _, fun _ => rfl, fun _ => block_lt hb, by omega, fun j u hj => ?_, fun j hj => by omega⟩, ⟨by omega, fun j hj => frozen_of_row _ _ _ _ _ hb⟩, .inl ⟨rfl, block_lt hb⟩⟩
  exact cell_of hb (by rw [← hj]; simp)
theorem ints_grow (h : GRow 1 w v zs.length (cells zs)) : Ints w (fun k => v.ownBlock = some k) v zs := by
  obtain ⟨ao, b, off, cap, rfl, hle, hm, ha, hc⟩ := h.cell
  unfold maxLen at hm
  refine ⟨ao, cap, rfl, by omega, fun i hi => ?_⟩
  obtain ⟨rfl, hb, _⟩ := ha (by omega)
  exact ⟨b, off, rfl, rfl, hb, (hc i _ (by unfold cells; rw [List.getElem?_map, List.getElem?_eq_getElem hi, List.getD_eq_getElem?_getD, List.getElem?_eq_getElem hi]; rfl)).1⟩
/-- The search over a model that stood in the world w. -/
structure Rw (w wr : World) (R : Nat) (v1 v2 : Value) (M : Mo) (N : Nat) (L : List Bool) (T : List Int) (e : Nat) : Prop where
  rq : Rq wr R v1 v2 L T
  low : ∀ k, Hr R v1 v2 k → w.heap.size ≤ k
  bel : Below w.heap.size w wr
  wl : Wl M N L T e
theorem Rw.add {s : List Bool × List Int} {en : Ending} (h : Rw w wr R v1 v2 M N L T e) (hs : s = addL (L, T) zs) (h0 : ∀ z ∈ zs, 0 ≤ z ∧ z ≤ M.ob.length) (hr : ∀ z ∈ zs, z ≠ 0 → Rc M z.toNat) (ha : AddR wr R v1 v2 s en w') : ∃ v2', Rw w w' R v1 v2' M N s.1 s.2 e ∧ (∀ i, L.getD i false = true → s.1.getD i false = true) ∧ (∀ z ∈ zs, z ≠ 0 → s.1.getD z.toNat false = true) ∧ Wrote (Hr R v1 v2) wr (Hr R v1 v2') w' := by
  obtain ⟨_, v2', hq, hw⟩ := ha
  subst hs
  obtain ⟨a1, a2, a3⟩ := h.wl.addL h0 hr
  refine ⟨v2', ⟨hq, fun k hk => (hw.home k hk).elim (h.low k) (fun e2 => Nat.le_trans h.bel.size e2), ?_, a1⟩, a2, a3, hw⟩
  exact h.bel.trans (Cd.below_of_w hw h.low h.bel.size)
theorem Rw.small (h : Rw w wr R v1 v2 M N L T e) (hN : N ≤ 900000) (ho : M.ob.length ≤ 800000) : fc L + T.length ≤ 900000 ∧ L.length ≤ 900000 := by
  have := h.wl.cnt
  have := h.wl.len
  omega
/-- A call of add, on a list of the model's. -/
theorem Rw.call (h : Rw w wr R v1 v2 M N L T e) (hN : N ≤ 900000) (ho : M.ob.length ≤ 800000) {S : Home} (hv : Ints wr S v zs) (hS : ∀ k, S k → k < w.heap.size) (h0 : ∀ z ∈ zs, 0 ≤ z ∧ z ≤ M.ob.length) (hr : ∀ z ∈ zs, z ≠ 0 → Rc M z.toNat) : Calls Tryd.prog 34 #[.pointer (some ⟨R, 0, none⟩), v] wr (fun en w' => en = .returned (.tuple #[]) ∧ ∃ v2' L' T', Rw w w' R v1 v2' M N L' T' e ∧ (∀ i, L.getD i false = true → L'.getD i false = true) ∧ (∀ z ∈ zs, z ≠ 0 → L'.getD z.toNat false = true) ∧ Wrote (Hr R v1 v2) wr (Hr R v1 v2') w') := by
  obtain ⟨b1, b2⟩ := h.small hN ho
  have hl := h.wl.len
  exact (radd_any h.rq hv (fun k hk hh => by have := hS k hk; have := h.low k hh; omega) (fun z hz => by have := h0 z hz; omega) b1 b2).mono fun en w' ha => by
    obtain ⟨v2', k1, k2, k3, k4⟩ := h.add rfl h0 hr ha
    exact ⟨ha.1, v2', _, _, k1, k2, k3, k4⟩
/-- What next answers, and what it leaves. -/
def NxR (w : World) (R : Nat) (v1 : Value) (M : Mo) (N : Nat) (L : List Bool) (en : Ending) (w' : World) : Prop := ∃ (x : Int) (s : Bool) (v2 : Value) (T : List Int) (N' : Nat), en = .returned (.tuple #[.int .i64 x, .bool s]) ∧ Rw w w' R v1 v2 M N' L T x.toNat ∧ ((s = false ∧ x = 0 ∧ T = [] ∧ N' ≤ N) ∨ (s = true ∧ 1 ≤ x ∧ x ≤ M.ob.length ∧ Rc M x.toNat ∧ N' < N))
theorem Rw.next (h : Rw w wr R v1 v2 M N L T 0) (hN : N ≤ 900000) : Calls Tryd.prog 36 #[.pointer (some ⟨R, 0, none⟩)] wr (NxR w R v1 M N L) := by
  have hc := h.wl.cnt
  refine (rnext_any h.rq (by omega)).mono fun en w' hn => ?_
  rcases hn with ⟨rfl, rfl, rfl⟩ | ⟨T', x, v2', rfl, rfl, hq, ho, hw⟩
  · exact ⟨0, false, v2, [], N, rfl, h, .inl ⟨rfl, rfl, rfl, Nat.le_refl _⟩⟩
  · obtain ⟨a1, a2, a3, a4, a5⟩ := h.wl.pop
    refine ⟨x, true, v2', T', N - 1, rfl, ⟨hq, fun k hk => ?_, ?_, a1⟩, .inr ⟨rfl, a2, a3, a4, by omega⟩⟩
    · rcases hk with e2 | e2 | e2
      · exact h.low k (.inl e2)
      · exact h.low k (.inr (.inl e2))
      · exact h.low k (.inr (.inr (by rw [← ho]; exact e2)))
    · exact h.bel.trans (Cd.below_of_w hw (fun k hk => h.low k (.inl hk)) h.bel.size)
/-- The stacks of the first i that are alive are known. -/
def Stk (M : Mo) (al : List Int) (L : List Bool) (i : Nat) : Prop := ∀ y ∈ al.take i, ∀ z ∈ (M.gs.getD y.toNat g0).sk, z ≠ 0 → L.getD z.toNat false = true
theorem mem_alive (L : List Int) (x : Int) : ∀ n, x ∈ St.aliveTo L n ↔ ∃ t : Nat, x = (t : Int) ∧ t < n ∧ L.getD t 0 ≠ 5
  | 0 => by simp [St.aliveTo]
  | n + 1 => by
    have ih := mem_alive L x n
    unfold St.aliveTo
    rw [List.mem_append, ih]
    constructor
    · rintro (⟨t, e1, e2, e3⟩ | h)
      · exact ⟨t, e1, by omega, e3⟩
      · split at h
        · cases h
        · rename_i hk
          rw [List.mem_singleton] at h
          exact ⟨n, h, by omega, hk⟩
    · rintro ⟨t, e1, e2, e3⟩
      rcases Nat.lt_or_ge t n with e4 | e4
      · exact .inl ⟨t, e1, e4, e3⟩
      · obtain rfl : t = n := by omega
        rw [if_neg e3]
        exact .inr (by simp [e1])
theorem m_alive (h : IsM B w fs p q M) : Calls Tryd.prog 35 #[.pointer (some ⟨q.ps, 0, none⟩)] w (fun en w' => ∃ v, en = .returned v ∧ Below w.heap.size w w' ∧ Ints w' (fun k => w.heap.size ≤ k) v (St.aliveTo M.st M.st.length)) :=
  (St.alive_any w h.p1).mono fun en w' ⟨v', he, hb, ho⟩ => ⟨v', he, hb, (ints_of_owns ho).wider (fun k hk _ => (ho.lt k hk).1)⟩
/-- Where a goroutine's stack lies. -/
theorem IsM.stk (h : IsM B w fs p q M) (hg : g < M.gs.length) (hk : (M.gs.getD g g0).sk.length = 16) : Ints w (fun k => k = q.bs.getD g 0) (.slice (some ⟨q.bs.getD g 0, 3, none⟩) 16 16) (M.gs.getD g g0).sk := by
  obtain ⟨gb, go, cap, c2, cg, hbk⟩ := h.find hg rfl
  refine ⟨_, 16, by rw [hk], by omega, fun i hi => ⟨_, 3, rfl, rfl, block_lt hbk, ?_⟩⟩
  exact cell_of hbk (gcl_at _ (by omega))
/-- What Reach answers. -/
def ReachR (w : World) (M : Mo) (en : Ending) (w' : World) : Prop := ∃ v zs, en = .returned v ∧ Below w.heap.size w w' ∧ Ints w' (fun k => w.heap.size ≤ k) v zs ∧ IsReach M zs
end Md
end Go.Proofs.YtdhkakjiahkjnaaDoor
/- The model: Reach, its walk. -/
namespace Go.Proofs.YtdhkakjiahkjnaaDoor
open Go.RowKit Go.Lib Fx Ho Gr
set_option linter.unusedVariables false
namespace Md
open Cd (Ins zi ca c4)
variable {B w w' wr : World} {fs : List (List Ins)} {p : Nat} {q q' : Pl} {M M' : Mo} {g a b c n i e G K R N : Nat} {v v1 v2 : Value} {L : List Bool} {T zs : List Int}
/-- What stands behind next: one to be gone through, or none. -/
def Nq (w wr : World) (R : Nat) (v1 : Value) (M : Mo) (g : Nat) (L : List Bool) (x : Int) (s : Bool) : Prop := ∃ (v2 : Value) (T : List Int) (N : Nat), Rw w wr R v1 v2 M N L T x.toNat ∧ ((s = false ∧ x = 0 ∧ T = [] ∧ N ≤ g) ∨ (s = true ∧ 1 ≤ x ∧ x ≤ M.ob.length ∧ Rc M x.toNat ∧ N < g))
theorem NxR.nq {L : List Bool} {en : Ending} (h : NxR w R v1 M N L en wr) : ∃ (x : Int) (s : Bool), en = .returned (.tuple #[.int .i64 x, .bool s]) ∧ Nq w wr R v1 M N L x s := by
  obtain ⟨x, s, v2, T, N', h1, h2, h3⟩ := h
  exact ⟨x, s, h1, v2, T, N', h2, h3⟩
/-- The answer's row, as it grows. -/
def Rrow (w3 wr : World) (v : Value) (L : List Bool) (i : Nat) : Prop := GRow 1 wr v (rises L i).length (cells (rises L i)) ∧ (∀ k, v.ownBlock = some k → w3.heap.size ≤ k) ∧ Below w3.heap.size w3 wr
set_option maxRecDepth 100000 in
set_option maxHeartbeats 4000000 in
theorem reach_any (h : IsM B w fs p q M) (hI : Inv G fs M K) (hK : K ≤ 90000) : Calls Tryd.prog 20 #[.pointer (some ⟨p, 0, none⟩)] w (ReachR w M) := by
  have hob := hI.ob
  obtain ⟨n, hn⟩ : ∃ n, M.ob.length = n := ⟨_, rfl⟩
  have c8 : w.cell? ⟨p, 8, none⟩ = some q.obv := cell_of h.p0 rfl
  obtain ⟨so, co, eo⟩ := h.p5.row.slice
  rw [eo, hn] at c8
  have c7 : w.cell? ⟨p, 7, none⟩ = some q.glv := cell_of h.p0 rfl
  have hmk : ∀ W : World, (Instr.makeSlice 93 (.int .i64 ((n : Int) + 1)) (.int .i64 ((n : Int) + 1))).run Tryd.prog W = .ok (.slice (some ⟨W.heap.size, 0, none⟩) (n + 1) (n + 1)) (W.alloc (.cells (bls (List.replicate (n + 1) false)).toArray 4)) := fun W => by
    have := run_make_row' (P := Tryd.prog) 93 4 (.bool false) 1 Tryd.underlying93 (by kernel_rfl) rfl .i64 .i64 (n + 1) (by omega) (by omega) W
    rw [made_bools] at this
    push_cast at this
    exact this
  obtain ⟨CC, hCC⟩ : ∃ CC, (bls (List.replicate (n + 1) false)).toArray = CC := ⟨_, rfl⟩
  have kA := heap_alloc_new w (.cells CC 4)
  have bA := below_alloc (Below.refl w.heap.size w) (.cells CC 4)
  have bB := below_alloc bA (.cells #[.slice (some ⟨w.heap.size, 0, none⟩) (n + 1) (n + 1), .slice none 0 0] 95)
  have kB := heap_alloc_new (w.alloc (.cells CC 4)) (.cells #[.slice (some ⟨w.heap.size, 0, none⟩) (n + 1) (n + 1), .slice none 0 0] 95)
  have kA2 := ((below_alloc (Below.refl _ (w.alloc (.cells CC 4))) (.cells #[.slice (some ⟨w.heap.size, 0, none⟩) (n + 1) (n + 1), .slice none 0 0] 95)).block _ (block_lt kA)).trans kA
  have s1 : (w.alloc (.cells CC 4)).heap.size = w.heap.size + 1 := by show (w.heap.push _).size = _; rw [Array.size_push]
  rw [s1] at kB
  obtain ⟨U, hU⟩ : ∃ U, (w.alloc (.cells CC 4)).alloc (.cells #[.slice (some ⟨w.heap.size, 0, none⟩) (n + 1) (n + 1), .slice none 0 0] 95) = U := ⟨_, rfl⟩
  rw [hU] at kB kA2 bB
  have hr0 : Hid (Rw w U (w.heap.size + 1) (.slice (some ⟨w.heap.size, 0, none⟩) (n + 1) (n + 1)) (.slice none 0 0) M (n + 1) (List.replicate (n + 1) false) [] 0) := Lib.hid (by
    refine ⟨⟨kB, ?_, grow_nil 1 U, fun e2 => ?_, fun e2 => (by cases e2), fun k hk e2 => (by cases e2)⟩, fun k hk => ?_, bB, ⟨(by rw [List.length_replicate, hn]), (by simp), fun z hz => (by cases hz), fun i hi => ?_, fun i hi => ?_, (by rw [fc_false]; simp)⟩⟩
    · have := grow_bools (W := U) (K := w.heap.size) (zs := List.replicate (n + 1) false) (e := 4) (by rw [hCC]; exact kA2) (by rw [List.length_replicate]; omega)
      rw [List.length_replicate] at this ⊢
      exact this
    · have e2 : w.heap.size = w.heap.size + 1 := Option.some.inj e2
      omega
    · rcases hk with rfl | e2 | e2
      · omega
      · obtain rfl : w.heap.size = k := Option.some.inj e2
        exact Nat.le_refl _
      · cases e2
    · rw [List.getD_eq_getElem?_getD, List.getElem?_replicate] at hi
      split at hi <;> cases hi
    · rw [List.getD_eq_getElem?_getD, List.getElem?_replicate] at hi
      split at hi <;> cases hi)
  have hN9 : n + 1 ≤ 900000 := by omega
  have ho9 : M.ob.length ≤ 800000 := by omega
  have ca := hr0.out.call hN9 ho9 (ints_grow (GRow.below h.p6 bB)) (fun k hk => (h.ap.low 6 k (by omega) hk).2) hI.glv (fun z hz hne => Rc.gl hz hne)
  have d7 : U.cell? ⟨p, 7, none⟩ = some q.glv := cell_then bB c7
  obtain ⟨sg, cg, eg⟩ := GRow.slice h.p6
  rw [eg] at ca d7
  have e18 : IntKind.i64.wrap ((n : Int) + 1) = (n : Int) + 1 := by rw [IntKind.wrap_i64]; omega
  have hI := Lib.hid hI
  have h := Lib.hid h
  replace hCC := Lib.hid hCC
  clear kA kA2 kB bA hr0 c7
  rw [hCC.out] at hmk
  go_enter Tryd.func20, Tryd.ntmps20
  go_upto_region 4 with fail
  try rw [hU]
  clear hU hmk c8
  go_wp2_with fail
  with_reducible refine Calls.mono ca ?_
  rintro e w1 ⟨rfl, v2, L1, T1, hr1, -, hgl, -⟩
  clear ca d7
  generalize hv1 : Value.slice (some ⟨w.heap.size, 0, none⟩) (n + 1) (n + 1) = v1 at *
  clear hv1 hCC
  obtain ⟨R, hR⟩ : ∃ R, w.heap.size + 1 = R := ⟨_, rfl⟩
  rw [hR] at hr1 ⊢
  replace hr1 := Lib.hid hr1
  replace hgl := Lib.hid hgl
  have hM1 := Lib.hid (h.out.below hr1.out.bel)
  have c3 : w1.cell? ⟨p, 3, none⟩ = some (.pointer (some ⟨q.ps, 0, none⟩)) := cell_of hM1.out.p0 rfl
  have cs := m_alive hM1.out
  clear bB s1 hR eo eg e18
  go_wp2_with fail
  with_reducible refine Calls.mono cs ?_
  rintro e w2 ⟨va, rfl, hb2, hia⟩
  clear cs c3
  have hale : Hid (∀ y : Int, y ∈ St.aliveTo M.st M.st.length ↔ ∃ t : Nat, y = (t : Int) ∧ t < M.st.length ∧ M.st.getD t 0 ≠ 5) := Lib.hid fun y => mem_alive _ _ _
  obtain ⟨al, hal⟩ : ∃ al, St.aliveTo M.st M.st.length = al := ⟨_, rfl⟩
  rw [hal] at hia hale
  clear hal
  obtain ⟨sa, ka, rfl, hab, hcell⟩ := hia
  obtain ⟨m, hm⟩ : ∃ m, al.length = m := ⟨_, rfl⟩
  have hcells : Hid (∀ i, i < m → ∀ wr v2', Wrote (Hr R v1 v2) w2 (Hr R v1 v2') wr → ∃ b off, sa = some ⟨b, off, none⟩ ∧ wr.cell? ⟨b, off + i, none⟩ = some (.int .i64 (al.getD i 0))) := Lib.hid fun i hi wr v2' hw => by
    obtain ⟨b, off, e, hb, _, hc⟩ := hcell i (by omega)
    exact ⟨b, off, e, hw.cell hc (fun hh => by have hh : Hr R v1 v2 b := hh; have := hr1.out.rq.lt hh; have hb : w1.heap.size ≤ b := hb; omega)⟩
  have hr2 : Hid (Rw w w2 R v1 v2 M (n + 1) L1 T1 0) := Lib.hid ⟨hr1.out.rq.below hb2, hr1.out.low, hr1.out.bel.trans (hb2.mono hr1.out.bel.size), hr1.out.wl⟩
  rw [hm] at hab ⊢
  replace hm := Lib.hid hm
  replace hn := Lib.hid hn
  clear hcell hb2 hr1 hM1
  go_wp2_with fail
  go_loopw [34] (fun u wr => ∃ (i : Nat) (v2' : Value) (L' : List Bool) (T' : List Int), u = .int .i64 i ∧ i ≤ m ∧ Hid (Rw w wr R v1 v2' M (n + 1) L' T' 0 ∧ Wrote (Hr R v1 v2) w2 (Hr R v1 v2') wr ∧ (∀ z ∈ M.gl, z ≠ 0 → L'.getD z.toNat false = true) ∧ Stk M al L' i)) (fun u _ => (m - (RowKit.intOf u).toNat))
  case atStart => exact ⟨0, v2, L1, T1, rfl, by omega, Lib.hid ⟨hr2.out, Wrote.refl _ _, hgl.out, fun y hy => by simp at hy⟩⟩
  case round =>
    obtain ⟨i, v2', L', T', rfl, him, hr⟩ := hrel
    obtain ⟨hr3, hw3, hgl3, hstk⟩ := hr.out
    clear hr2 hgl
    have hM3 := Lib.hid (h.out.below hr3.bel)
    by_cases hlt : i < m
    · have hl0 : i < al.length := by rw [hm.out]; exact hlt
      obtain ⟨t, ht, htl, ht5⟩ := (hale.out _).1 (getD_mem 0 hl0)
      have hgt : t < M.gs.length := by have := hI.out.len; omega
      have hG := hI.out.gor _ (getD_mem g0 hgt)
      obtain ⟨b, off, rfl, cz⟩ := hcells.out i hlt wr v2' hw3
      rw [ht] at cz
      obtain ⟨gb, go, cap, c2, cg, _⟩ := hM3.out.find hgt rfl
      have ca := hr3.call hN9 ho9 (hM3.out.stk hgt hG.sk) (fun k hk => by have := (h.out.ap.low 4 k (by omega) (hk ▸ h.out.gat hgt)).2; exact this) hG.val (fun z hz hne => Rc.sk htl ht5 hz hne)
      have hnx : Hid (∀ W v8 L8 T8, Rw w W R v1 v8 M (n + 1) L8 T8 0 → (∀ i, L'.getD i false = true → L8.getD i false = true) → (∀ z ∈ (M.gs.getD t g0).sk, z ≠ 0 → L8.getD z.toNat false = true) → Wrote (Hr R v1 v2') wr (Hr R v1 v8) W → Hid (Rw w W R v1 v8 M (n + 1) L8 T8 0 ∧ Wrote (Hr R v1 v2) w2 (Hr R v1 v8) W ∧ (∀ z ∈ M.gl, z ≠ 0 → L8.getD z.toNat false = true) ∧ Stk M al L8 (i + 1))) := Lib.hid fun W v8 L8 T8 k1 k2 k3 k4 => Lib.hid ⟨k1, hw3.trans k4, fun z hz hne => k2 _ (hgl3 z hz hne), fun y hy z hz hne => by
        rw [List.take_add_one, List.getElem?_eq_getElem hl0] at hy
        rcases List.mem_append.1 hy with e2 | e2
        · exact k2 _ (hstk y e2 z hz hne)
        · have e2 : y = al[i] := by simpa using e2
          have e3 : y = (t : Int) := by rw [e2, ← ht, List.getD_eq_getElem?_getD, List.getElem?_eq_getElem hl0]; rfl
          rw [e3] at hz
          exact k3 z hz hne⟩
      have i2 : (i : Int) < (m : Int) := by omega
      have i0 : (0 : Int) ≤ (i : Int) := by omega
      have t0 : (0 : Int) ≤ (t : Int) := by omega
      have t1 : (t : Int) < (M.gs.length : Int) := by omega
      generalize q.bs.getD t 0 = gk at *
      clear hr hr3 hw3 hgl3 hstk hM3 ht htl ht5 hG hl0
      go_wp2_with fail
      with_reducible refine Calls.mono ca ?_
      rintro e w4 ⟨rfl, v8, L8, T8, k1, k2, k3, k4⟩
      have hq := hnx.out w4 v8 L8 T8 k1 k2 k3 k4
      clear ca k1 k2 k3 k4 hnx c2 cg cz
      go_wp2_with fail
      go_roundw
      case rel => exact ⟨i + 1, v8, L8, T8, by go_num, by omega, hq⟩
      case measure => simp [RowKit.intOf]; omega
    · obtain rfl : i = m := by omega
      have hrts : Hid (Rts M L') := Lib.hid ⟨hgl3, fun g hg h5 z hz hne => by
        have hin := (hale.out (g : Int)).2 ⟨g, rfl, hg, h5⟩
        exact hstk (g : Int) (by rw [List.take_of_length_le (by rw [hm.out]; exact Nat.le_refl _)]; exact hin) z (by rw [Int.toNat_natCast]; exact hz) hne⟩
      have cn := hr3.next hN9
      clear hr hr3 hw3 hgl3 hstk hM3 hcells hale
      go_wp2_with fail
      with_reducible refine Calls.mono cn ?_
      rintro e w3 hnx
      obtain ⟨x, s, rfl, hnq⟩ := hnx.nq
      replace hnq := Lib.hid hnq
      clear cn hnx
      go_wp2_with fail
      go_loopg [6, 7] (n + 1) (fun g u6 u7 wr => ∃ (x : Int) (s : Bool) (L : List Bool), u6 = .int .i64 x ∧ u7 = .bool s ∧ g ≤ n + 1 ∧ Hid (Nq w wr R v1 M g L x s ∧ Rts M L))
      case atStart => exact ⟨x, s, L', rfl, rfl, Nat.le_refl _, Lib.hid ⟨hnq.out, hrts.out⟩⟩
      case round =>
        obtain ⟨y, sb, L5, rfl, rfl, hgn, hr5⟩ := hrel
        clear hnq hrts
        obtain ⟨⟨v5, T5, N5, hr6, hcase⟩, hrts5⟩ := hr5.out
        clear hr5
        have hM5 := Lib.hid (h.out.below hr6.bel)
        rcases hcase with ⟨rfl, rfl, rfl, hN5⟩ | ⟨rfl, y1, y2, hrc, hN5⟩
        · have hwh : Hid (∀ i, L5.getD i false = true ↔ Rc M i) := Lib.hid (hr6.wl.whole hrts5)
          have hz5 := hr6.wl.zero
          have hl5 : L5.length = n + 1 := by rw [hr6.wl.len, hn.out]
          obtain ⟨ao, b1, o1, cap1, ev1, hle1, hm1, ha1, hc1⟩ := hr6.rq.is.cell
          obtain ⟨rfl, _, _⟩ := ha1 (by omega)
          rw [hl5] at ev1
          have c0 : wr.cell? ⟨R, 0, none⟩ = some v1 := cell_of hr6.rq.head rfl
          rw [ev1] at c0
          have hbs : Hid (∀ W, Below wr.heap.size wr W → ∀ j, j < n + 1 → W.cell? ⟨b1, o1 + j, none⟩ = some (.bool (L5.getD j false))) := Lib.hid fun W hW j hj => cell_then hW (hc1 j _ (by unfold bls; rw [List.getElem?_map, List.getElem?_eq_getElem (by omega), List.getD_eq_getElem?_getD, List.getElem?_eq_getElem (by omega)]; rfl)).1
          have hfin : Hid (∀ W v, Rrow wr W v L5 (n + 1) → ReachR w M (.returned v) W) := Lib.hid fun W v hx => ⟨v, rises L5 L5.length, rfl, hr6.bel.trans (hx.2.2.mono hr6.bel.size), by rw [hl5]; exact (ints_grow hx.1).wider (fun k hk _ => Nat.le_trans hr6.bel.size (hx.2.1 k hk)), L5, by rw [hl5, hn.out], hz5, hwh.out, rfl⟩
          have st0 : Hid (Rrow wr wr (.slice none 0 0) L5 0) := Lib.hid ⟨grow_nil 1 wr, fun k hk => (by cases hk), Below.refl _ _⟩
          have hmle : cap1 ≤ 9223372036854775807 := by unfold maxLen at hm1; exact hm1
          have n9 : (n : Int) + 1 ≤ 900000 := by omega
          clear hr6 hrts5 hM5 hwh hz5 hl5 hc1 ha1 ev1 hN5 hm1
          obtain ⟨w3, hw3⟩ : ∃ w3, w3 = wr := ⟨_, rfl⟩
          rw [← hw3] at hbs hfin st0
          have st0 : Hid (Rrow w3 wr (.slice none 0 0) L5 0) := by rw [hw3] at st0 ⊢; exact st0
          clear hw3
          go_wp2_with fail
          go_loopw [8, 77] (fun u8 u wr => ∃ (i : Nat) (s8 : Option Addr) (c8 : Nat), u8 = .slice s8 (rises L5 i).length c8 ∧ u = .int .i64 i ∧ i ≤ n + 1 ∧ Hid (Rrow w3 wr (.slice s8 (rises L5 i).length c8) L5 i)) (fun _ u _ => (n + 1 - (RowKit.intOf u).toNat))
          case atStart => exact ⟨0, none, 0, rfl, rfl, by omega, st0⟩
          case round =>
            obtain ⟨i, s8, c8, rfl, rfl, hi9, hrow⟩ := hrel
            clear st0
            by_cases hlt : i < n + 1
            · have cz := hbs.out wr hrow.out.2.2 i hlt
              have i2 : (i : Int) < ((n + 1 : Nat) : Int) := by omega
              have i3 : (i : Int) < (n : Int) + 1 := by omega
              have i0 : (0 : Int) ≤ (i : Int) := by omega
              by_cases hk : L5.getD i false = true
              · have hnx : rises L5 (i + 1) = rises L5 i ++ [(i : Int)] := by show rises L5 i ++ _ = _; rw [if_pos hk]
                rw [hk] at cz
                have hle := rises_le L5 i
                have hbd : (rises L5 i).length + 1 ≤ 1000000 := by omega
                have hrow2 : Hid (GRow 1 (wr.alloc (.cells #[.int .i64 (i : Int)] 3)) (.slice s8 (rises L5 i).length c8) (rises L5 i).length (cells (rises L5 i))) := Lib.hid (hrow.out.1.below (below_alloc (Below.refl _ _) _))
                have hsrc := Lib.hid (Pt.src_int (i : Int) wr)
                have key : Hid (∀ u8 w8, GRow 1 w8 u8 ((rises L5 i).length + 1) (cells (rises L5 i) ++ [.int .i64 (i : Int)]) → Wrote (fun k => (Value.slice s8 (rises L5 i).length c8).ownBlock = some k) (wr.alloc (.cells #[.int .i64 (i : Int)] 3)) (fun k => u8.ownBlock = some k) w8 → ∃ s c, u8 = .slice s (rises L5 (i + 1)).length c ∧ Hid (Rrow w3 w8 (.slice s (rises L5 (i + 1)).length c) L5 (i + 1))) := Lib.hid fun u8 w8 g1 g2 => by
                  obtain ⟨s, c, e2⟩ := g1.slice
                  have hl : (rises L5 (i + 1)).length = (rises L5 i).length + 1 := by rw [hnx, List.length_append]; rfl
                  have hbx := below_alloc (Below.refl wr.heap.size wr) (.cells #[.int .i64 (i : Int)] 3)
                  have hb3 := hrow.out.2.2
                  refine ⟨s, c, by rw [hl]; exact e2, Lib.hid ⟨?_, fun k hk2 => ?_, (hb3.trans (hbx.mono hb3.size)).trans (Cd.below_of_w g2 hrow.out.2.1 (Nat.le_trans hb3.size hbx.size))⟩⟩
                  · rw [hl, hnx, cells_app, ← e2]
                    exact g1
                  · rw [hl, ← e2] at hk2
                    exact (g2.home k hk2).elim (hrow.out.2.1 k) (fun e3 => Nat.le_trans (Nat.le_trans hb3.size hbx.size) e3)
                clear hk hrow hnx hle
                generalize (rises L5 i).length = r1 at *
                generalize cells (rises L5 i) = r2 at *
                go_wp2_with (at_builtin; refine wpList_append_g rfl (.tmp 83) (.tmp 85) rfl rfl Pt.eltI hrow2.out rfl rfl hsrc.out hbd ?_; intro u8 w8 g1 g2; have hk := key.out u8 w8 g1 g2; obtain ⟨s9, c9, rfl, hnx⟩ := hk; clear key g1 g2 hrow2 hsrc)
                go_roundw
                case rel => exact ⟨i + 1, s9, c9, rfl, by go_num, by omega, hnx⟩
                case measure => simp [RowKit.intOf]; omega
              · have hk2 : L5.getD i false = false := by
                  cases hq : L5.getD i false with
                  | false => rfl
                  | true => exact absurd hq hk
                have hnx : rises L5 (i + 1) = rises L5 i := by show rises L5 i ++ _ = _; rw [if_neg hk, List.append_nil]
                rw [hk2] at cz
                have hrow2 : Hid (Rrow w3 wr (.slice s8 (rises L5 (i + 1)).length c8) L5 (i + 1)) := Lib.hid (by have := hrow.out; unfold Rrow at this ⊢; rw [hnx]; exact this)
                rw [← hnx]
                clear hk hk2 hrow hnx
                go_wp2_with fail
                go_roundw
                case rel => exact ⟨i + 1, s8, c8, rfl, by go_num, by omega, hrow2⟩
                case measure => simp [RowKit.intOf]; omega
            · obtain rfl : i = n + 1 := by omega
              have hf := Lib.hid (hfin.out wr _ hrow.out)
              clear hrow
              go_wp2_with fail
              go_ret
              exact hf.out
        · obtain ⟨id, rfl⟩ := Int.eq_ofNat_of_zero_le (show 0 ≤ y by omega)
          rw [Int.toNat_natCast] at hr6 hrc
          have hid1 : 1 ≤ id := by omega
          have hid2 : id ≤ M.ob.length := by omega
          obtain ⟨tb, tp, cap, ao, l, c2, c8, ct, hl, hl9, eo2, _⟩ := hM5.out.findO hid1 hid2
          have hmem := getD_mem ([] : List Int) (show id - 1 < M.ob.length by omega)
          have hii := ints_grow (hM5.out.p5.cel (id - 1) (by omega))
          rw [eo2] at hii
          have ca := hr6.call (by omega) ho9 hii (fun k hk => by have := (h.out.ap.low 5 k (by omega) (.inr ⟨id - 1, by have := h.out.p5.len; omega, by rw [eo2]; exact hk⟩)).2; exact this) (hI.out.obv _ hmem) (fun z hz hne => Rc.ob hrc hz hne)
          have cnx : Hid (∀ W v8 L8 T8, Rw w W R v1 v8 M N5 L8 T8 id → (∀ i, L5.getD i false = true → L8.getD i false = true) → (∀ z ∈ M.ob.getD (id - 1) [], z ≠ 0 → L8.getD z.toNat false = true) → Calls Tryd.prog 36 #[.pointer (some ⟨R, 0, none⟩)] W (fun en w' => ∃ (x : Int) (s : Bool), en = .returned (.tuple #[.int .i64 x, .bool s]) ∧ Hid (Nq w w' R v1 M N5 L8 x s ∧ Rts M L8))) := Lib.hid fun W v8 L8 T8 k1 k2 k3 => by
            refine (Rw.next ⟨k1.rq, k1.low, k1.bel, k1.wl.fin k3⟩ (by omega)).mono fun en w' hx => ?_
            obtain ⟨x, s, rfl, hq⟩ := hx.nq
            exact ⟨x, s, rfl, Lib.hid ⟨hq, fun z hz hne => k2 _ (hrts5.gl z hz hne), fun g hg h5 z hz hne => k2 _ (hrts5.sk g hg h5 z hz hne)⟩⟩
          obtain ⟨j, rfl⟩ : ∃ j, id = j + 1 := ⟨id - 1, by omega⟩
          rw [Nat.add_sub_cancel] at ct
          obtain ⟨y, hy⟩ : ∃ y : Int, ((j + 1 : Nat) : Int) = y := ⟨_, rfl⟩
          rw [hy]
          have y4 : IntKind.i64.wrap (y - 1) = (j : Int) := by rw [IntKind.wrap_i64]; omega
          have y3 : y - 1 = (j : Int) := by omega
          have j0 : (0 : Int) ≤ (j : Int) := by omega
          have j1 : (j : Int) < (M.ob.length : Int) := by omega
          have hgk : N5 < gk := hN5
          clear hr6 hrc hM5 eo2 hii hmem hrts5 hy y1 y2 hid1 hid2 hl hN5
          go_wp2_with fail
          with_reducible refine Calls.mono ca ?_
          rintro e w4 ⟨rfl, v8, L8, T8, k1, k2, k3, -⟩
          have cn := cnx.out w4 v8 L8 T8 k1 k2 k3
          clear ca k1 k2 k3 cnx c8 ct
          go_wp2_with fail
          with_reducible refine Calls.mono cn ?_
          rintro e w5 ⟨x6, s6, rfl, hq6⟩
          clear cn
          go_wp2_with fail
          go_roundg N5
          case measure => exact hgk
          case rel => exact ⟨x6, s6, L8, rfl, rfl, by omega, hq6⟩
end Md
end Go.Proofs.YtdhkakjiahkjnaaDoor
