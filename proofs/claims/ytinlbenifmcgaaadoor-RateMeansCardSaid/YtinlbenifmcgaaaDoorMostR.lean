/- rate.Most: the greatest ones, falling. -/
import Derived.Test.YtinlbenifmcgaaaDoorPopR
import Derived.Test.YtinlbenifmcgaaaDoorRateMath
import Derived.OwnWalk
import Derived.Deep.LoopGhost
namespace Go.Proofs.YtinlbenifmcgaaaDoor
open Go.RowKit Go.Lib Fx Ho Gr
set_option linter.unusedVariables false
namespace Pr
open Fk Hm
variable {w w' : World} {p : Nat} {v u : Value} {L M Q zs : List Nat} {H H' : Home}
theorem eltP : Elt Tryd.prog 50 23 1 8 (.float .f64 0) := ⟨Tryd.underlying50, by kernel_rfl, rfl, by decide, by decide⟩
theorem eltF : Elt Tryd.prog 22 23 1 8 (.float .f64 0) := ⟨Tryd.underlying22, by kernel_rfl, rfl, by decide, by decide⟩
/-- The slice v holds the floats zs; it is only read. -/
def Fls (w : World) (v : Value) (zs : List Nat) : Prop :=
  (∃ sp cap, v = .slice sp zs.length cap ∧ zs.length ≤ 9223372036854775807 ∧ ∀ i, i < zs.length → ∃ b off, sp = some ⟨b, off, none⟩ ∧ b < w.heap.size ∧ w.cell? ⟨b, off + i, none⟩ = some (.float .f64 (zs.getD i 0))) ∧ ∀ x ∈ zs, Wf x
theorem fc_one (zs : List Nat) : ∀ u ∈ fc zs, u.oneCell' = true := fun u hu => by
  obtain ⟨x, _, rfl⟩ := List.mem_map.1 hu
  rfl
theorem Fls.below (h : Fls w v zs) (hb : Below w.heap.size w w') : Fls w' v zs := by
  obtain ⟨⟨sp, cap, rfl, hl, hi⟩, hw⟩ := h
  refine ⟨⟨sp, cap, rfl, hl, fun i hlt => ?_⟩, hw⟩
  obtain ⟨b, off, e, hb1, hc⟩ := hi i hlt
  exact ⟨b, off, e, Nat.lt_of_lt_of_le hb1 hb.size, cell_then hb hc⟩
theorem Fls.of_row (h : GRow 1 w v zs.length (fc zs)) (hw : ∀ x ∈ zs, Wf x) : Fls w v zs := by
  obtain ⟨ao, b, off, cap, rfl, hle, hm, ha, hc⟩ := h.cell
  unfold maxLen at hm
  refine ⟨⟨ao, cap, rfl, by omega, fun i hi => ?_⟩, hw⟩
  obtain ⟨rfl, hb, _⟩ := ha (by omega)
  exact ⟨b, off, rfl, hb, (hc i _ (fc_get hi)).1⟩
theorem src_fls (h : Fls w v zs) {T : TypeId} (hT : Tryd.prog.underlying T = some (.slice 23)) : Src Tryd.prog 1 T v zs.length (fc zs) w := by
  obtain ⟨⟨sp, cap, rfl, _, hi⟩, _⟩ := h
  cases zs with
  | nil =>
    cases sp with
    | none => exact Src.ofNil w hT cap
    | some a => exact Src.ofSlice w hT a 0 cap [] rfl (fun j u hj => by simp at hj) (fun u hu => by simp at hu)
  | cons y r =>
    obtain ⟨b, off, rfl, _, _⟩ := hi 0 (by simp)
    refine Src.ofSlice w hT ⟨b, off, none⟩ _ cap _ (by rw [fc_len]; omega) (fun j u hj => ?_) (fc_one _)
    have hl := (List.getElem?_eq_some_iff.1 hj).1
    rw [fc_len] at hl
    obtain ⟨b2, off2, e, _, hc⟩ := hi j hl
    cases e
    rw [addr_add, hc, ← fc_get hl, hj]
theorem IsP.wrote (h : IsP w p v L) (hw : Wrote H w H' w') (ho : ∀ k, home p v k → ¬ H k) : IsP w' p v L :=
  ⟨hw.cell h.cell (ho p (Or.inl rfl)), by rw [World.frozen?_of_block (a := ⟨p, 0, none⟩) (hw.block p h.lt (ho p (Or.inl rfl)))]; exact h.free, Nat.lt_of_lt_of_le h.lt hw.size, h.row.wrote hw (fun k hk => ho k (Or.inr hk)), h.off, h.wf, h.small⟩
/-- M was taken out of zs, the greatest ones first; Q is left. -/
structure Ms (zs M Q : List Nat) : Prop where
  perm : (M ++ Q).Perm zs
  fall : Fall M
  above : ∀ a ∈ M, ∀ b ∈ Q, key b ≤ key a
theorem Ms.step {x : Nat} {Q' : List Nat} (h : Ms zs M Q) (ho : Ok 0 Fk.ahead 0 Q.length Q) (hx : Q.getD 0 0 = x) (hq : (x :: Q').Perm Q) : Ms zs (M ++ [x]) Q' := by
  have top : ∀ b ∈ Q, key b ≤ key x := fun b hb => by
    obtain ⟨c, hc, rfl⟩ := List.getElem_of_mem hb
    have := ho.least Fk.ahead_ord c c (Nat.le_refl c) hc
    rw [hx, getD_at hc] at this
    unfold Fk.ahead at this
    simp only [decide_eq_false_iff_not] at this
    omega
  have hxq : x ∈ Q := hq.mem_iff.1 (by simp)
  have hsub : ∀ b ∈ Q', b ∈ Q := fun b hb => hq.mem_iff.1 (by simp [hb])
  refine ⟨?_, ?_, fun a ha b hb => ?_⟩
  · rw [List.append_assoc]
    exact ((hq.append_left M)).trans h.perm
  · exact List.pairwise_append.2 ⟨h.fall, by simp, fun a ha b hb => by
      simp only [List.mem_singleton] at hb
      subst hb
      exact h.above a ha b hxq⟩
  · rcases List.mem_append.1 ha with h1 | h1
    · exact h.above a h1 b (hsub b hb)
    · simp only [List.mem_singleton] at h1
      subst h1
      exact top b (hsub b hb)
theorem Ms.most {n : Nat} (h : Ms zs M Q) (hn : M.length ≤ n) (he : n ≤ M.length ∨ Q = []) : MostOf zs n M := by
  refine ⟨Q, h.perm, h.fall, h.above, ?_⟩
  have := h.perm.length_eq
  rw [List.length_append] at this
  rcases he with e | e
  · omega
  · subst e; simp at this; omega
/-- What Most tells. -/
def Mosts (w : World) (zs : List Nat) (n : Nat) (e : Ending) (w' : World) : Prop := ∃ u M, e = .returned u ∧ Fls w' u M ∧ MostOf zs n M ∧ Below w.heap.size w w'
/-- The pile, in a block of its own. -/
theorem pile_new (hr : GRow 1 w v zs.length (fc zs)) (hw : ∀ x ∈ zs, Wf x) (hz : zs.length ≤ 1000) : IsP (w.alloc (.cells #[v] 50)) w.heap.size v zs := by
  have hb := below_alloc (Below.refl _ w) (.cells #[v] 50)
  exact ⟨cell_of (heap_alloc_new _ _) rfl, frozen_of_row _ _ _ _ _ (heap_alloc_new _ _), by show w.heap.size < (w.heap.push _).size; rw [Array.size_push]; omega, hr.below hb, fun e => by have := hr.lt e; omega, hw, hz⟩
/-- In the midst of Most: u holds M, the pile at p holds Q. -/
structure Mw (w wr : World) (p : Nat) (v u : Value) (zs M Q : List Nat) : Prop where
  pile : IsP wr p v Q
  heap : Ok 0 Fk.ahead 0 Q.length Q
  ms : Ms zs M Q
  low : Low w.heap.size (home p v)
  below : Below w.heap.size w wr
  row : GRow 1 wr u M.length (fc M)
  ulow : Low w.heap.size (fun k => u.ownBlock = some k)
  off : ∀ k, u.ownBlock = some k → ¬ home p v k
  wf : ∀ x ∈ M, Wf x
theorem Mw.len {wr : World} (h : Mw w wr p v u zs M Q) : M.length + Q.length = zs.length := by
  have := h.ms.perm.length_eq
  rw [List.length_append] at this
  exact this
theorem fc_app (A B : List Nat) : fc (A ++ B) = fc A ++ fc B := List.map_append
/-- One more is taken. -/
theorem Mw.step {wr w5 : World} {x : Nat} {u2 : Value} {e : Ending} (h : Mw w wr p v u zs M Q) (hx : Q.getD 0 0 = x) (hp : Popped wr p v Q e w') (hr : GRow 1 w5 u2 (M.length + 1) (fc M ++ [.float .f64 x])) (hw : Wrote (fun k => u.ownBlock = some k) (w'.alloc (.cells #[.float .f64 x] 23)) (fun k => u2.ownBlock = some k) w5) :
    ∃ v2 Q2, Mw w w5 p v2 u2 zs (M ++ [x]) Q2 := by
  obtain ⟨_, v2, Q2, h1, h2, h3, h4⟩ := hp
  rw [hx] at h3
  have hB := h4.below h.low h.below
  have hl2 := h4.low h.low h.below.size
  have hal := below_alloc (Below.refl _ w') (.cells #[.float .f64 x] 23)
  have hul : ∀ k, u.ownBlock = some k → k < wr.heap.size := fun k hk => h.row.lt hk
  have off1 : ∀ k, u.ownBlock = some k → ¬ home p v2 k := fun k hk hh => (h4.home k hh).elim (h.off k hk) (fun h5 => by have := hul k hk; omega)
  have p2 := (h1.below hal).wrote hw (fun k hk e => off1 k e hk)
  have hB2 := hw.below h.ulow (hB.trans (hal.mono hB.size))
  refine ⟨v2, Q2, p2, h2, h.ms.step h.heap hx h3, hl2, hB2, ?_, hw.low h.ulow (Nat.le_trans hB.size hal.size), fun k hk hh => ?_, fun y hy => ?_⟩
  · rw [List.length_append, fc_app]; exact hr
  · rcases hw.home k hk with h5 | h5
    · exact off1 k h5 hh
    · rcases hh with rfl | hh
      · have := (h1.below hal).lt; omega
      · have := (h1.below hal).row.lt hh; omega
  · rcases List.mem_append.1 hy with h5 | h5
    · exact h.wf y h5
    · simp only [List.mem_singleton] at h5
      subst h5
      rw [← hx]
      exact wf_get h.pile.wf 0
theorem src_one (x : Nat) (w : World) : Src Tryd.prog 1 22 (.slice (some ⟨w.heap.size, 0, none⟩) 1 1) 1 [.float .f64 x] (w.alloc (.cells #[.float .f64 x] 23)) :=
  src_new (s := 1) (A := #[.float .f64 x]) Tryd.underlying22 rfl (fun u hu => by simp at hu; subst hu; rfl) (heap_alloc_new _ _)
set_option maxRecDepth 100000 in
set_option maxHeartbeats 4000000 in
theorem most_any (h : Fls w v zs) (hz : zs.length ≤ 1000) (n : Int) : Calls Tryd.prog 22 #[v, .int .i64 n] w (Mosts w zs n.toNat) := by
  have hsrc := Lib.hid (src_fls h Tryd.underlying22)
  have key : Hid (∀ (v1 : Value) (w1 : World), GRow 1 w1 v1 (0 + zs.length) ([] ++ fc zs) → Wrote (fun k => (Value.slice none 0 0).ownBlock = some k) w (fun k => v1.ownBlock = some k) w1 → (∃ sp cap, v1 = .slice sp zs.length cap) ∧ Hid (IsP (w1.alloc (.cells #[v1] 50)) w1.heap.size v1 zs ∧ Low w.heap.size (home w1.heap.size v1) ∧ Below w.heap.size w (w1.alloc (.cells #[v1] 50)))) := Lib.hid fun v1 w1 h1 h2 => by
    rw [Nat.zero_add, List.nil_append] at h1
    have hB : Below w.heap.size w w1 := h2.below (W := w) (fun k hk => by cases hk) (Below.refl _ _)
    obtain ⟨sp, cap, e⟩ := h1.slice
    exact ⟨⟨sp, cap, e⟩, Lib.hid ⟨pile_new h1 h.2 hz, fun k hk => by
      rcases hk with rfl | hk
      · exact hB.size
      · exact (h2.home k hk).elim (fun e => by cases e) id, below_alloc hB _⟩⟩
  have hz2 : 0 + zs.length ≤ 1000000 := by omega
  have hzl : zs.length ≤ 1000 := hz
  clear h hz
  go_enter Tryd.func22, Tryd.ntmps22
  go_wp2_with (at_builtin; refine wpList_append_g rfl _ (.tmp 7) rfl rfl eltP (grow_nil 1 w) rfl rfl hsrc.out hz2 ?_; intro v1 w1 hr1 hw1; obtain ⟨⟨sp, cap, rfl⟩, hk⟩ := key.out v1 w1 hr1 hw1; clear hr1 hw1 key hsrc)
  obtain ⟨p, hp⟩ : ∃ p, w1.heap.size = p := ⟨_, rfl⟩
  rw [hp] at hk
  simp only [hp]
  generalize w1.alloc (.cells #[.slice sp zs.length cap] 50) = w2 at *
  clear hp
  obtain ⟨hk1, hk2, hk3⟩ := hk.out
  have ci := init_any hk1
  have st : Hid (∀ e w', Inited w2 p (.slice sp zs.length cap) zs e w' → e = .returned (.tuple #[]) ∧ ∃ (v : Value) (Q : List Nat), Hid (IsP w' p v Q) ∧ Hid (Ok 0 Fk.ahead 0 Q.length Q) ∧ Hid (Ms zs [] Q) ∧ Hid (Low w.heap.size (home p v)) ∧ Hid (Below w.heap.size w w')) := Lib.hid fun e w' ⟨h1, Q, h2, h3, h4, h5⟩ =>
    ⟨h1, _, Q, Lib.hid h2, Lib.hid h3, Lib.hid ⟨by simpa using h4, List.Pairwise.nil, fun a ha => by simp at ha⟩, Lib.hid (h5.low hk2 hk3.size), Lib.hid (h5.below hk2 hk3)⟩
  replace ci := Calls.mono ci st.out
  clear hk hk1 hk2 hk3 st
  go_wp2_with fail
  with_reducible refine Calls.mono (ci) ?_
  rintro e w3 ⟨rfl, v3, Q, hp, ho, hm, hl, hB⟩
  clear ci
  go_wp2_with fail
  have st : Hid (Mw w w3 p v3 (.slice none 0 0) zs [] Q) := Lib.hid ⟨hp.out, ho.out, hm.out, hl.out, hB.out, grow_nil 1 w3, fun k hk => (by cases hk), fun k hk => (by cases hk), fun x hx => by simp at hx⟩
  clear hp ho hm hl hB
  go_loopg [6] zs.length (fun g u wr => ∃ (M Q : List Nat) (v : Value) (s2 : Option Addr) (c2 : Nat), u = .slice s2 M.length c2 ∧ M.length + g = zs.length ∧ M.length ≤ n.toNat ∧ Hid (Mw w wr p v (.slice s2 M.length c2) zs M Q))
  case atStart => exact ⟨[], Q, v3, none, 0, rfl, by simp, by simp, st⟩
  case round =>
    clear st
    obtain ⟨M, Q, v4, s2, c2, rfl, hml, hmn, hst⟩ := hrel
    have hlen := hst.out.len
    have hpc := hst.out.pile.cell
    obtain ⟨s4, c4, rfl⟩ := hst.out.pile.row.slice
    have hmb : M.length ≤ 1000 := by omega
    by_cases h1 : M.length < n.toNat
    · have e1 : (M.length : Int) < n := by omega
      rcases Nat.eq_zero_or_pos Q.length with hq | hq
      · have hfin : Hid (Mosts w zs n.toNat (.returned (.slice s2 M.length c2)) wr) := Lib.hid ⟨_, M, rfl, Fls.of_row hst.out.row hst.out.wf, hst.out.ms.most hmn (Or.inr (List.eq_nil_of_length_eq_zero hq)), hst.out.below⟩
        rw [hq] at hpc
        clear hst hlen
        go_wp2_with fail
        go_ret
        exact hfin.out
      · obtain ⟨q, hq⟩ : ∃ q, Q.length = q + 1 := ⟨Q.length - 1, by omega⟩
        have cp := pop_any hst.out.pile hst.out.heap hq
        obtain ⟨x, hx⟩ : ∃ x, Q.getD 0 0 = x := ⟨_, rfl⟩
        have key : Hid (∀ w4, Popped wr p (.slice s4 Q.length c4) Q (.returned (.iface 23 (.float .f64 x))) w4 → ∀ (u2 : Value) (w5 : World), GRow 1 w5 u2 (M.length + 1) (fc M ++ [.float .f64 x]) → Wrote (fun k => (Value.slice s2 M.length c2).ownBlock = some k) (w4.alloc (.cells #[.float .f64 x] 23)) (fun k => u2.ownBlock = some k) w5 → ∃ s5 c5, u2 = .slice s5 (M ++ [x]).length c5 ∧ Hid (∃ v2 Q2, Mw w w5 p v2 u2 zs (M ++ [x]) Q2)) := Lib.hid fun w4 hp u2 w5 hr hw => by
          obtain ⟨s5, c5, e⟩ := hr.slice
          exact ⟨s5, c5, by rw [e, List.length_append]; rfl, Lib.hid (hst.out.step hx hp hr hw)⟩
        have hrow : Hid (∀ w4, Popped wr p (.slice s4 Q.length c4) Q (.returned (.iface 23 (.float .f64 x))) w4 → GRow 1 (w4.alloc (.cells #[.float .f64 x] 23)) (.slice s2 M.length c2) M.length (fc M)) := Lib.hid fun w4 ⟨_, v2, Q2, k1, k2, k3, k4⟩ =>
          (hst.out.row.wrote k4 (fun k hk => hst.out.off k hk)).below (below_alloc (Below.refl _ _) _)
        replace cp : Calls Tryd.prog 36 #[.iface 52 (.pointer (some ⟨p, 0, none⟩))] wr fun e w' => e = .returned (.iface 23 (.float .f64 x)) ∧ Hid (Popped wr p (.slice s4 Q.length c4) Q (.returned (.iface 23 (.float .f64 x))) w') := cp.mono fun e w' h => by
          have he := h.1
          rw [hx] at he
          subst he
          exact ⟨rfl, Lib.hid h⟩
        have hta : ∀ W, (Instr.typeAssert (.iface 23 (.float .f64 x)) 20 23 false).run Tryd.prog W = .ok (.float .f64 x) W := fun W => by rfl
        have hbd : M.length + 1 ≤ 1000000 := by omega
        have hq0 : Q.length ≤ 1000 := by omega
        have hq1 : 0 < Q.length := by omega
        have hgk : M.length < zs.length := by omega
        rw [hq] at hpc
        clear hst hx hlen
        go_wp2_with fail
        with_reducible refine Calls.mono (cp) ?_
        rintro e w4 ⟨rfl, hp4⟩
        have hrow4 := Lib.hid (hrow.out w4 hp4.out)
        have key4 := Lib.hid (key.out w4 hp4.out)
        clear cp hp4 hpc hrow key
        go_wp2_with (at_builtin; refine wpList_append_g rfl (.tmp 20) (.tmp 24) rfl rfl eltF hrow4.out rfl rfl (src_one x w4) hbd ?_; intro u2 w5 g1 g2; obtain ⟨s5, c5, rfl, hk⟩ := key4.out u2 w5 g1 g2; clear g1 g2 hrow4 key4)
        obtain ⟨v2, Q2, hk⟩ := hk.out
        replace hk := Lib.hid hk
        clear hta
        go_wp2_with fail
        go_roundg (zs.length - (M ++ [x]).length)
        case measure => rw [List.length_append, List.length_singleton]; omega
        case rel => exact ⟨M ++ [x], Q2, v2, s5, c5, by simp, by rw [List.length_append, List.length_singleton]; omega, by rw [List.length_append, List.length_singleton]; omega, hk⟩
    · have e1 : ¬ (M.length : Int) < n := by omega
      have hfin : Hid (Mosts w zs n.toNat (.returned (.slice s2 M.length c2)) wr) := Lib.hid ⟨_, M, rfl, Fls.of_row hst.out.row hst.out.wf, hst.out.ms.most hmn (Or.inl (by omega)), hst.out.below⟩
      clear hst hlen
      go_wp2_with fail
      go_ret
      exact hfin.out
end Pr
end Go.Proofs.YtinlbenifmcgaaaDoor
