/- A pool's calls: a buffer goes into common, and another one takes its place; Put, Get, Give, Flush and what is told of a pool. -/
import Derived.Test.YtclldajbibhcbaaPoolMem
import Derived.Test.YtclldajbibhcbaaPoolDo
import Derived.Test.YtclldajbibhcbaaMinMax
namespace Go.Proofs.Ytclldajbibhcbaa
open Go.RowKit Go.Lib Fx Ho Qu Bu Gr
set_option linter.unusedVariables false
namespace Po
variable {w w' W W0 : World} {p B ps nf ne nf' ne' : Nat} {ad : Nat → Nat → Nat} {c c' : Nat → Nat → List Int} {G M H H' K M' : Home} {a : Nat → Value} {fv ev v : Value} {xf xe xs : List Value} {s : St} {n i : Nat}
theorem At.c1 (h : At K w p B ps a fv ev ad s M G) (hi : i < ps) : w.cell? ⟨B, i * 3, none⟩ = some (ptr (ad 0 i)) := by rw [h.m.ca (by omega), h.one i hi]
theorem At.c2 (h : At K w p B ps a fv ev ad s M G) (hi : i < ps) : w.cell? ⟨B, i * 3 + 1, none⟩ = some (ptr (ad 1 i)) := by rw [h.m.ca (by omega), h.two i hi]
theorem At.c3 (h : At K w p B ps a fv ev ad s M G) (hi : i < ps) : w.cell? ⟨B, i * 3 + 2, none⟩ = some (.bool (s.fl i)) := by rw [h.m.ca (by omega), h.flg i hi]
theorem At.b0 (h : At K w p B ps a fv ev ad s M G) (hi : i < ps) : IsBuf w (ad 0 i) (s.o i) := h.b.buf 0 i (h.ok1 hi).1
theorem At.b1 (h : At K w p B ps a fv ev ad s M G) (hi : i < ps) : IsBuf w (ad 1 i) (s.t i) := h.b.buf 1 i (h.ok1 hi).2
/-- Behind a way into common: what takes the place is x. -/
def Post0 (K : Home) (w : World) (p B ps : Nat) (s : St) (i x y : Nat) (w4 : World) : Prop :=
  w4.cell? ⟨B, i * 3, none⟩ = some (ptr y) ∧ w4.frozen? ⟨B, i * 3, none⟩ = false ∧ Hid (∀ W, W = w4.setCell ⟨B, i * 3, none⟩ (ptr x) → Is K W p B ps (sCh 0 s i) ∧ Wrote K w K W)
set_option maxRecDepth 100000 in
set_option maxHeartbeats 1000000 in
theorem ch0_any (h : At K w p B ps a fv ev ad s M G) (hi : i < ps) (hps : ps ≤ 64) (hF : s.F.length ≤ 100000) (hE : s.e ≤ 100000) : Calls Try.prog 118 #[.pointer (some ⟨p, 0, none⟩), .pointer (some ⟨B, i * 3, none⟩), ptr (ad 0 i)] w fun e w4 => ∃ x, e = .returned (ptr x) ∧ Post0 K w p B ps s i x (ad 0 i) w4 := by
  have cp := push_any (p := p) (j := 1) (x := ad 0 i) h.m.c1 (h.m.fz 1) h.m.full h.m.fp hF
  have hoff : Off G M := fun k h1 h2 => h.off k h2 h1
  have hnext : Hid (∀ w2, Pushed 1 fv s.F.length (ptrs (ad 2) s.F.length ++ [ptr (ad 0 i)]) p w (.returned (.tuple #[])) w2 → w2.cell? ⟨B, i * 3 + 2, none⟩ = some (.bool (s.fl i)) ∧ w2.frozen? ⟨B, i * 3 + 2, none⟩ = false ∧ Hid (∀ w3, w3 = w2.setCell ⟨B, i * 3 + 2, none⟩ (.bool true) → w3.cell? ⟨p, 2, none⟩ = some ev ∧ Hid (s.e = 0 → ∀ w4, Below w3.heap.size w3 w4 → IsBuf w4 w3.heap.size [] → Post0 K w p B ps s i w3.heap.size (ad 0 i) w4) ∧ Hid (∀ m, s.e = m + 1 → ∃ b off cap, ev = .slice (some ⟨b, off, none⟩) (m + 1) cap ∧ Calls Try.prog 120 #[.pointer (some ⟨p, 2, none⟩)] w3 fun e w4 => e = .returned (ptr (ad 3 m)) ∧ Post0 K w p B ps s i (ad 3 m) (ad 0 i) w4))) := Lib.hid fun w2 hp => by
    obtain ⟨_, v', w1, hg, hw1, rfl⟩ := hp
    obtain ⟨k1, m1⟩ := h.m.setf hw1 hg
    obtain ⟨k2, m2⟩ := m1.seta (j := i * 3 + 2) (by omega) (.bool true)
    have o1 := k1.off hoff h.b.lt
    have b2 := (h.b.wrote k1 hoff).wrote k2 o1
    have k12 := k1.trans k2
    have ea : ∀ W M2 v1 v2 n1 n2 x1 x2, Mem W p B ps (up a (i * 3 + 2) (.bool true)) v1 v2 n1 n2 x1 x2 M2 → W.cell? ⟨B, i * 3, none⟩ = some (ptr (ad 0 i)) := fun W M2 v1 v2 n1 n2 x1 x2 hm => by
      rw [hm.ca (by omega), up_ne _ _ (by omega), h.one i hi]
    refine ⟨by rw [m1.ca (by omega), h.flg i hi], m1.fa _, Lib.hid fun w3 e3 => ?_⟩
    subst e3
    refine ⟨m2.c2, Lib.hid fun he w4 hb4 hi4 => ?_, Lib.hid fun m he => ?_⟩
    · have m3 := m2.below hb4
      refine ⟨ea _ _ _ _ _ _ _ _ m3, m3.fa _, Lib.hid fun W eW => ?_⟩
      subst eW
      obtain ⟨k3, m4⟩ := m3.seta (j := i * 3) (by omega) (ptr _)
      have b3 := b2.more (c' := fun k l => if k = 3 ∧ l = s.e then [] else cont s.o s.t s.F k l) hb4 (Nat.le_refl _) hi4 (fun _ _ _ => rfl)
      have o3 : Off (fun b => G b ∨ b = _) _ := fun k h1 h2 => h1.elim (fun h1 => o1 k h1 h2) (fun h1 => by have := m2.lt k h2; rw [h1] at this; exact Nat.lt_irrefl _ this)
      have b4 := b3.wrote k3 o3
      rw [he] at m4 b4
      exact h.changed (j := 0) (ne' := 0) hi (by omega) (k12.trans ((Wrote.of_below hb4).trans k3)) m4 b4 (by simp) (fun k l hs => by unfold Slot at hs; simp; constructor <;> (intro h3; omega)) (by simp) (fun k h1 h2 => o3 k h2 h1) (fun k hk => hk.imp id (fun e => by rw [e]; exact Nat.le_trans k12.size (Nat.le_refl _))) (by omega)
    · have hcl := m2.empt.cell
      rw [he] at hcl
      obtain ⟨ao, b, off, cap, ee, hle, hmx, hab, hcell⟩ := hcl
      obtain ⟨rfl, hbl, hob⟩ := hab (by omega)
      obtain ⟨g1, g2⟩ := hcell m (ptr (ad 3 m)) (ptrs_get (by omega))
      have hne : b ≠ p := fun e => m2.ep (by rw [hob, e])
      have c2 := m2.c2
      rw [ee] at c2
      refine ⟨b, off, cap, ee, (pop_any (x := ad 3 m) c2 (m2.fz 2) g1 g2 hne (by omega) (by omega)).mono fun e w4 ⟨h1, h2⟩ => ⟨h1, ?_⟩⟩
      subst h2
      have m2' := m2
      rw [he] at m2'
      obtain ⟨k3, m3⟩ := m2'.pope ee (.pointer none)
      rw [ptrs_take] at m3
      refine ⟨ea _ _ _ _ _ _ _ _ m3, m3.fa _, Lib.hid fun W eW => ?_⟩
      subst eW
      obtain ⟨k4, m4⟩ := m3.seta (j := i * 3) (by omega) (ptr (ad 3 m))
      have o3 := k3.off o1 b2.lt
      have b4 := (b2.wrote k3 o1).wrote k4 o3
      rw [he] at b4
      exact h.changed (j := 0) (ne' := m) hi (by omega) (k12.trans (k3.trans k4)) m4 b4 rfl (fun k l hs => ⟨rfl, rfl⟩) (by simp [cont]) (fun k h1 h2 => o3 k h2 h1) (fun k hk => Or.inl hk) (by omega)
  clear hoff
  by_cases he : s.e = 0
  · have hev := h.m.empt.slice
    obtain ⟨se, ce, ee⟩ := hev
    rw [he] at ee
    have cn : Hid (∀ w3 : World, Calls Try.prog 66 #[] w3 fun e w' => e = .returned (.pointer (some ⟨w3.heap.size, 0, none⟩)) ∧ Below w3.heap.size w3 w' ∧ IsBuf w' w3.heap.size []) := Lib.hid fun w3 => Bu.new_any w3
    subst ee
    have he2 : Hid (s.e = 0) := Lib.hid he
    clear h hF hE he
    unfold ptr at *
    go_enter Try.func118, Try.ntmps118
    go_wp2_with fail
    with_reducible refine Calls.mono (cp) ?_
    rintro e w2 hp
    have hp1 := hp.1
    subst hp1
    obtain ⟨f1, f2, hn2⟩ := hnext.out w2 hp
    obtain ⟨f3, hn3, _⟩ := hn2.out _ rfl
    clear cp hp hnext hn2
    go_wp2_with fail
    with_reducible refine Calls.mono (cn.out _) ?_
    rintro e w4 ⟨rfl, hb4, hi4⟩
    have hfin := hn3.out he2.out w4 hb4 hi4
    rw [show (w2.setCell ⟨B, i * 3 + 2, none⟩ (.bool true)).heap.size = w2.heap.size by simp [World.setCell]] at hfin
    clear hn3 hb4 hi4 cn
    replace hfin := Lib.hid hfin
    go_wp2_with fail
    go_ret
    exact ⟨_, rfl, hfin.out⟩
  · obtain ⟨m, hm⟩ : ∃ m, s.e = m + 1 := ⟨s.e - 1, by omega⟩
    have hm2 := Lib.hid hm
    have hev := h.m.empt.slice
    obtain ⟨se, ce, ee⟩ := hev
    rw [hm] at ee
    subst ee
    have m0 : ¬ ((m : Int) + 1 ≤ 0) := by omega
    have m1 : (0 : Int) < (m : Int) + 1 := by omega
    clear h hF hE he hm
    unfold ptr at *
    go_enter Try.func118, Try.ntmps118
    go_wp2_with fail
    with_reducible refine Calls.mono (cp) ?_
    rintro e w2 hp
    have hp1 := hp.1
    subst hp1
    obtain ⟨f1, f2, hn2⟩ := hnext.out w2 hp
    obtain ⟨f3, _, hn3⟩ := hn2.out _ rfl
    obtain ⟨b, off, cap, ee, cq⟩ := hn3.out m hm2.out
    clear cp hp hnext hn2 hn3 ee
    go_wp2_with fail
    with_reducible refine Calls.mono (cq) ?_
    rintro e w4 ⟨rfl, hfin⟩
    clear cq
    replace hfin := Lib.hid hfin
    go_wp2_with fail
    go_ret
    exact ⟨_, rfl, hfin.out⟩
/-- Behind a way into common: what takes the place is x. -/
def Post1 (K : Home) (w : World) (p B ps : Nat) (s : St) (i x y : Nat) (w4 : World) : Prop :=
  w4.cell? ⟨B, i * 3 + 1, none⟩ = some (ptr y) ∧ w4.frozen? ⟨B, i * 3 + 1, none⟩ = false ∧ Hid (∀ W, W = w4.setCell ⟨B, i * 3 + 1, none⟩ (ptr x) → Is K W p B ps (sCh 1 s i) ∧ Wrote K w K W)
set_option maxRecDepth 100000 in
set_option maxHeartbeats 1000000 in
theorem ch1_any (h : At K w p B ps a fv ev ad s M G) (hi : i < ps) (hps : ps ≤ 64) (hF : s.F.length ≤ 100000) (hE : s.e ≤ 100000) : Calls Try.prog 118 #[.pointer (some ⟨p, 0, none⟩), .pointer (some ⟨B, i * 3, none⟩), ptr (ad 1 i)] w fun e w4 => ∃ x, e = .returned (ptr x) ∧ Post1 K w p B ps s i x (ad 1 i) w4 := by
  have cp := push_any (p := p) (j := 1) (x := ad 1 i) h.m.c1 (h.m.fz 1) h.m.full h.m.fp hF
  have hoff : Off G M := fun k h1 h2 => h.off k h2 h1
  have hnext : Hid (∀ w2, Pushed 1 fv s.F.length (ptrs (ad 2) s.F.length ++ [ptr (ad 1 i)]) p w (.returned (.tuple #[])) w2 → w2.cell? ⟨B, i * 3 + 2, none⟩ = some (.bool (s.fl i)) ∧ w2.frozen? ⟨B, i * 3 + 2, none⟩ = false ∧ Hid (∀ w3, w3 = w2.setCell ⟨B, i * 3 + 2, none⟩ (.bool true) → w3.cell? ⟨p, 2, none⟩ = some ev ∧ Hid (s.e = 0 → ∀ w4, Below w3.heap.size w3 w4 → IsBuf w4 w3.heap.size [] → Post1 K w p B ps s i w3.heap.size (ad 1 i) w4) ∧ Hid (∀ m, s.e = m + 1 → ∃ b off cap, ev = .slice (some ⟨b, off, none⟩) (m + 1) cap ∧ Calls Try.prog 120 #[.pointer (some ⟨p, 2, none⟩)] w3 fun e w4 => e = .returned (ptr (ad 3 m)) ∧ Post1 K w p B ps s i (ad 3 m) (ad 1 i) w4))) := Lib.hid fun w2 hp => by
    obtain ⟨_, v', w1, hg, hw1, rfl⟩ := hp
    obtain ⟨k1, m1⟩ := h.m.setf hw1 hg
    obtain ⟨k2, m2⟩ := m1.seta (j := i * 3 + 2) (by omega) (.bool true)
    have o1 := k1.off hoff h.b.lt
    have b2 := (h.b.wrote k1 hoff).wrote k2 o1
    have k12 := k1.trans k2
    have ea : ∀ W M2 v1 v2 n1 n2 x1 x2, Mem W p B ps (up a (i * 3 + 2) (.bool true)) v1 v2 n1 n2 x1 x2 M2 → W.cell? ⟨B, i * 3 + 1, none⟩ = some (ptr (ad 1 i)) := fun W M2 v1 v2 n1 n2 x1 x2 hm => by
      rw [hm.ca (by omega), up_ne _ _ (by omega), h.two i hi]
    refine ⟨by rw [m1.ca (by omega), h.flg i hi], m1.fa _, Lib.hid fun w3 e3 => ?_⟩
    subst e3
    refine ⟨m2.c2, Lib.hid fun he w4 hb4 hi4 => ?_, Lib.hid fun m he => ?_⟩
    · have m3 := m2.below hb4
      refine ⟨ea _ _ _ _ _ _ _ _ m3, m3.fa _, Lib.hid fun W eW => ?_⟩
      subst eW
      obtain ⟨k3, m4⟩ := m3.seta (j := i * 3 + 1) (by omega) (ptr _)
      have b3 := b2.more (c' := fun k l => if k = 3 ∧ l = s.e then [] else cont s.o s.t s.F k l) hb4 (Nat.le_refl _) hi4 (fun _ _ _ => rfl)
      have o3 : Off (fun b => G b ∨ b = _) _ := fun k h1 h2 => h1.elim (fun h1 => o1 k h1 h2) (fun h1 => by have := m2.lt k h2; rw [h1] at this; exact Nat.lt_irrefl _ this)
      have b4 := b3.wrote k3 o3
      rw [he] at m4 b4
      exact h.changed (j := 1) (ne' := 0) hi (by omega) (k12.trans ((Wrote.of_below hb4).trans k3)) m4 b4 (by simp) (fun k l hs => by unfold Slot at hs; simp; constructor <;> (intro h3; omega)) (by simp) (fun k h1 h2 => o3 k h2 h1) (fun k hk => hk.imp id (fun e => by rw [e]; exact Nat.le_trans k12.size (Nat.le_refl _))) (by omega)
    · have hcl := m2.empt.cell
      rw [he] at hcl
      obtain ⟨ao, b, off, cap, ee, hle, hmx, hab, hcell⟩ := hcl
      obtain ⟨rfl, hbl, hob⟩ := hab (by omega)
      obtain ⟨g1, g2⟩ := hcell m (ptr (ad 3 m)) (ptrs_get (by omega))
      have hne : b ≠ p := fun e => m2.ep (by rw [hob, e])
      have c2 := m2.c2
      rw [ee] at c2
      refine ⟨b, off, cap, ee, (pop_any (x := ad 3 m) c2 (m2.fz 2) g1 g2 hne (by omega) (by omega)).mono fun e w4 ⟨h1, h2⟩ => ⟨h1, ?_⟩⟩
      subst h2
      have m2' := m2
      rw [he] at m2'
      obtain ⟨k3, m3⟩ := m2'.pope ee (.pointer none)
      rw [ptrs_take] at m3
      refine ⟨ea _ _ _ _ _ _ _ _ m3, m3.fa _, Lib.hid fun W eW => ?_⟩
      subst eW
      obtain ⟨k4, m4⟩ := m3.seta (j := i * 3 + 1) (by omega) (ptr (ad 3 m))
      have o3 := k3.off o1 b2.lt
      have b4 := (b2.wrote k3 o1).wrote k4 o3
      rw [he] at b4
      exact h.changed (j := 1) (ne' := m) hi (by omega) (k12.trans (k3.trans k4)) m4 b4 rfl (fun k l hs => ⟨rfl, rfl⟩) (by simp [cont]) (fun k h1 h2 => o3 k h2 h1) (fun k hk => Or.inl hk) (by omega)
  clear hoff
  by_cases he : s.e = 0
  · have hev := h.m.empt.slice
    obtain ⟨se, ce, ee⟩ := hev
    rw [he] at ee
    have cn : Hid (∀ w3 : World, Calls Try.prog 66 #[] w3 fun e w' => e = .returned (.pointer (some ⟨w3.heap.size, 0, none⟩)) ∧ Below w3.heap.size w3 w' ∧ IsBuf w' w3.heap.size []) := Lib.hid fun w3 => Bu.new_any w3
    subst ee
    have he2 : Hid (s.e = 0) := Lib.hid he
    clear h hF hE he
    unfold ptr at *
    go_enter Try.func118, Try.ntmps118
    go_wp2_with fail
    with_reducible refine Calls.mono (cp) ?_
    rintro e w2 hp
    have hp1 := hp.1
    subst hp1
    obtain ⟨f1, f2, hn2⟩ := hnext.out w2 hp
    obtain ⟨f3, hn3, _⟩ := hn2.out _ rfl
    clear cp hp hnext hn2
    go_wp2_with fail
    with_reducible refine Calls.mono (cn.out _) ?_
    rintro e w4 ⟨rfl, hb4, hi4⟩
    have hfin := hn3.out he2.out w4 hb4 hi4
    rw [show (w2.setCell ⟨B, i * 3 + 2, none⟩ (.bool true)).heap.size = w2.heap.size by simp [World.setCell]] at hfin
    clear hn3 hb4 hi4 cn
    replace hfin := Lib.hid hfin
    go_wp2_with fail
    go_ret
    exact ⟨_, rfl, hfin.out⟩
  · obtain ⟨m, hm⟩ : ∃ m, s.e = m + 1 := ⟨s.e - 1, by omega⟩
    have hm2 := Lib.hid hm
    have hev := h.m.empt.slice
    obtain ⟨se, ce, ee⟩ := hev
    rw [hm] at ee
    subst ee
    have m0 : ¬ ((m : Int) + 1 ≤ 0) := by omega
    have m1 : (0 : Int) < (m : Int) + 1 := by omega
    clear h hF hE he hm
    unfold ptr at *
    go_enter Try.func118, Try.ntmps118
    go_wp2_with fail
    with_reducible refine Calls.mono (cp) ?_
    rintro e w2 hp
    have hp1 := hp.1
    subst hp1
    obtain ⟨f1, f2, hn2⟩ := hnext.out w2 hp
    obtain ⟨f3, _, hn3⟩ := hn2.out _ rfl
    obtain ⟨b, off, cap, ee, cq⟩ := hn3.out m hm2.out
    clear cp hp hnext hn2 hn3 ee
    go_wp2_with fail
    with_reducible refine Calls.mono (cq) ?_
    rintro e w4 ⟨rfl, hfin⟩
    clear cq
    replace hfin := Lib.hid hfin
    go_wp2_with fail
    go_ret
    exact ⟨_, rfl, hfin.out⟩
end Po
end Go.Proofs.Ytclldajbibhcbaa
