/- Two sleepers in each other's place. -/
import Derived.Test.YtinlbenifmcgaaaPileT
namespace Go.Proofs.Ytinlbenifmcgaaa
open Go.RowKit Go.Lib Fx Ho Gr
set_option linter.unusedVariables false
namespace Pt
open Hm
variable {w w' : World} {p : Nat} {v : Value} {L : List Sl}
theorem wr1 (w : World) (b o : Nat) (u : Value) : Wrote (fun k => k = b) w (fun k => k = b) (w.setCell ⟨b, o, none⟩ u) := wrote_setCell (a := ⟨b, o, none⟩) rfl rfl (by simp) rfl rfl
/-- One element is another one. -/
theorem set3 {b off cap n i : Nat} {M : List Sl} (x : Sl) (h : GRow 3 w (.slice (some ⟨b, off, none⟩) n cap) n (sc M)) (hn : M.length = n) (hi : i < n) :
    GRow 3 (((w.setCell ⟨b, off + i * 3, none⟩ (.int .i64 x.1)).setCell ⟨b, off + i * 3 + 1, none⟩ (.int .i64 x.2.1)).setCell ⟨b, off + i * 3 + 2, none⟩ (.int .i64 x.2.2)) (.slice (some ⟨b, off, none⟩) n cap) n (sc (M.set i x)) ∧
    Wrote (fun k => k = b) w (fun k => k = b) (((w.setCell ⟨b, off + i * 3, none⟩ (.int .i64 x.1)).setCell ⟨b, off + i * 3 + 1, none⟩ (.int .i64 x.2.1)).setCell ⟨b, off + i * 3 + 2, none⟩ (.int .i64 x.2.2)) := by
  have h0 := h.set (u := .int .i64 x.1) (j := i * 3) (by omega)
  have h2 := h0.set (u := .int .i64 x.2.1) (j := i * 3 + 1) (by omega)
  have h1 := h2.set (u := .int .i64 x.2.2) (j := i * 3 + 2) (by omega)
  rw [sc_set M i x (by omega)] at h1
  simp only [← Nat.add_assoc] at h1
  exact ⟨h1, ((wr1 w b (off + i * 3) (.int .i64 x.1)).trans (wr1 _ b (off + i * 3 + 1) (.int .i64 x.2.1))).trans (wr1 _ b (off + i * 3 + 2) (.int .i64 x.2.2))⟩
theorem swp3 {b off cap n i j : Nat} {x y : Sl} (h : GRow 3 w (.slice (some ⟨b, off, none⟩) n cap) n (sc L)) (hn : L.length = n) (hx : L.getD i Sl.sl0 = x) (hy : L.getD j Sl.sl0 = y) (hi : i < n) (hj : j < n) (k : Nat) :
    GRow 3 (((((((w.setCell ⟨b, off + i * 3, none⟩ (.int .i64 y.1)).setCell ⟨b, off + i * 3 + 1, none⟩ (.int .i64 y.2.1)).setCell ⟨b, off + i * 3 + 2, none⟩ (.int .i64 y.2.2)).setCell ⟨b, off + j * 3, none⟩ (.int .i64 x.1)).setCell ⟨b, off + j * 3 + 1, none⟩ (.int .i64 x.2.1)).setCell ⟨b, off + j * 3 + 2, none⟩ (.int .i64 x.2.2)).drewN k) (.slice (some ⟨b, off, none⟩) n cap) n (sc (swp Sl.sl0 L i j)) ∧
    Wrote (fun k => k = b) w (fun k => k = b) (((((((w.setCell ⟨b, off + i * 3, none⟩ (.int .i64 y.1)).setCell ⟨b, off + i * 3 + 1, none⟩ (.int .i64 y.2.1)).setCell ⟨b, off + i * 3 + 2, none⟩ (.int .i64 y.2.2)).setCell ⟨b, off + j * 3, none⟩ (.int .i64 x.1)).setCell ⟨b, off + j * 3 + 1, none⟩ (.int .i64 x.2.1)).setCell ⟨b, off + j * 3 + 2, none⟩ (.int .i64 x.2.2)).drewN k) := by
  obtain ⟨h1, w1⟩ := set3 y h hn hi
  obtain ⟨h2, w2⟩ := set3 x h1 (by rw [List.length_set]; exact hn) hj
  unfold swp
  rw [hx, hy]
  exact ⟨h2.below (below_drewN (Below.refl _ _) k), (w1.trans w2).drewN k⟩
set_option maxRecDepth 100000 in
set_option maxHeartbeats 4000000 in
theorem swap_any (h : GRow 3 w v L.length (sc L)) {i j : Nat} (hi : i < L.length) (hj : j < L.length) : Calls Try.prog 66 #[v, .int .i64 i, .int .i64 j] w (fun e w' => e = .returned (.tuple #[]) ∧ GRow 3 w' v L.length (sc (swp Sl.sl0 L i j)) ∧ Wrote (fun k => v.ownBlock = some k) w (fun k => v.ownBlock = some k) w') := by
  have h0 := h
  obtain ⟨b, off, cap, rfl, hle, hm, hbl, hc⟩ := at_i h hi
  obtain ⟨⟨c0, c1, c2⟩, f0, f1, f2⟩ := hc i hi
  obtain ⟨⟨d0, d1, d2⟩, g0, g1, g2⟩ := hc j hj
  have hfin := Lib.hid (swp3 h0 rfl rfl rfl hi hj 1)
  have hown : Hid (∀ W, Wrote (fun k => k = b) w (fun k => k = b) W → Wrote (fun k => (Value.slice (some ⟨b, off, none⟩) L.length cap).ownBlock = some k) w (fun k => (Value.slice (some ⟨b, off, none⟩) L.length cap).ownBlock = some k) W) := Lib.hid fun W h => ⟨h.os, h.tape, h.output, h.size, fun k hk ho => h.block k hk (fun e => ho (by rw [e]; rfl)), fun k hk => Or.inl hk⟩
  generalize (L.getD i Sl.sl0).1 = x0 at *
  generalize (L.getD i Sl.sl0).2.1 = x1 at *
  generalize (L.getD i Sl.sl0).2.2 = x2 at *
  generalize (L.getD j Sl.sl0).1 = y0 at *
  generalize (L.getD j Sl.sl0).2.1 = y1 at *
  generalize (L.getD j Sl.sl0).2.2 = y2 at *
  generalize L.length = n at *
  clear hc h h0
  by_cases hij : i = j
  · subst hij
    obtain rfl : x0 = y0 := by rw [c0] at d0; cases d0; rfl
    obtain rfl : x1 = y1 := by rw [c1] at d1; cases d1; rfl
    obtain rfl : x2 = y2 := by rw [c2] at d2; cases d2; rfl
    go_enter Try.func66, Try.ntmps66
    go_wp2_with fail
    go_region
    go_end0
    exact ⟨rfl, hfin.out.1, hown.out _ hfin.out.2⟩
  · go_enter Try.func66, Try.ntmps66
    go_wp2_with fail
    go_region
    go_end0
    exact ⟨rfl, hfin.out.1, hown.out _ hfin.out.2⟩
end Pt
end Go.Proofs.Ytinlbenifmcgaaa
