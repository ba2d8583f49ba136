/- Pages: a run is taken out of the heap. -/
import Derived.Test.YtbheabjemaaeoabPagesPut
namespace Go.Proofs.Ytbheabjemaaeoab
open Go.RowKit Go.Lib Fx Ho Gr
set_option linter.unusedVariables false
namespace Pg
open Hm Mp
variable {w w' W : World} {P b0 z n c i j k N : Nat} {v fv mv : Value} {L M : List Rn} {H H' : Home} {x r : Rn} {F : List Bool} {m m' : Int → Value} {k1 k2 : Int}
abbrev pz : Value := .pointer none
theorem take_end (h : Pc w P v b0 z n c F L m) (hr : L.getD i Rn.rn0 = r) (hp : Removed w P (.slice (some ⟨b0, 0, none⟩) n n) v (.map (some z)) L i (.returned (.iface 52 (.pointer (some ⟨r.2.2, 0, none⟩)))) w') : ∃ v' M a, Pc w' P v' b0 z n c F M m ∧ (r :: M).Perm L ∧ Wrote (homeA P v b0 z L) w (homeA P v' b0 z M) w' ∧ w'.heap[r.2.2]? = some (robj r a) ∧ ¬ home v' M r.2.2 := by
  obtain ⟨_, v', M, hq, hok, hperm, hw, ⟨a, ho⟩, hno⟩ := hp
  rw [hr] at hperm ho hno
  have hbl := block_lt h.fr
  have hzl := h.map.lt
  have hb : ¬ home2 P v L b0 := fun e => e.elim h.bP h.bh
  have hz : ¬ home2 P v L z := fun e => e.elim h.zP h.zh
  refine ⟨v', M, a, ⟨hq, (hw.block b0 hbl hb).trans h.fr, h.len, h.map.wrote hw hz, hok, h.bz, h.bP, h.zP, fun e => (hw.home b0 (.inr e)).elim hb (fun q => by omega), fun e => (hw.home z (.inr e)).elim hz (fun q => by omega)⟩, hperm, ⟨hw.os, hw.tape, hw.output, hw.size, fun q hq hn => hw.block q hq (fun e => hn (.inl e)), fun q hq => ?_⟩, ho, hno⟩
  rcases hq with hq | hq | hq
  · exact (hw.home q hq).imp .inl id
  · exact .inl (.inr (.inl hq))
  · exact .inl (.inr (.inr hq))
def Taken (w : World) (P : Nat) (v : Value) (b0 z n c : Nat) (F : List Bool) (L : List Rn) (m : Int → Value) (r : Rn) (e : Ending) (w' : World) : Prop :=
  e = .returned (.pointer (some ⟨r.2.2, 0, none⟩)) ∧ ∃ v' M a, Pc w' P v' b0 z n c F M (up (up m r.1 pz) (r.1 + r.2.1 - 1) pz) ∧ (r :: M).Perm L ∧ Wrote (homeA P v b0 z L) w (homeA P v' b0 z M) w' ∧ w'.heap[r.2.2]? = some (robj r a) ∧ ¬ home v' M r.2.2
set_option maxRecDepth 100000 in
set_option maxHeartbeats 2000000 in
theorem take_any (h : Pc w P v b0 z n c F L m) (hi : i < L.length) (hr : L.getD i Rn.rn0 = r) (h0 : 0 ≤ r.1) (h1 : r.1 ≤ 300000) (h2 : 1 ≤ r.2.1) (h3 : r.2.1 ≤ 300000) : Calls Try.prog 22 #[.pointer (some ⟨P, 0, none⟩), .int .i64 i] w (Taken w P v b0 z n c F L m r) := by
  have wa : (Lit.int .i64 r.1).wf = true := WalkArith.wf_i64 (by omega)
  have wl : (Lit.int .i64 (r.1 + r.2.1 - 1)).wf = true := WalkArith.wf_i64 (by omega)
  have ht := Try.underlying45
  have cr : Calls Try.prog 31 #[.iface 62 (.pointer (some ⟨P, 1, none⟩)), .int .i64 i] w fun e w2 => e = .returned (.iface 52 (.pointer (some ⟨r.2.2, 0, none⟩))) ∧ w2.cell? ⟨P, 2, none⟩ = some (.map (some z)) ∧ w2.cell? ⟨r.2.2, 0, none⟩ = some (.int .i64 r.1) ∧ Hid (∃ w3, (Builtin.delete_ #[45, 3] 0 #[.map (some z), .int .i64 r.1]).run Try.prog w2.drew = .ok (.tuple #[]) w3 ∧ w3.cell? ⟨P, 2, none⟩ = some (.map (some z)) ∧ ∀ V, Below w3.heap.size w3 V → Calls Try.prog 28 #[.pointer (some ⟨r.2.2, 0, none⟩)] V fun e w4 => e = .returned (.int .i64 (r.1 + r.2.1 - 1)) ∧ w4.cell? ⟨P, 2, none⟩ = some (.map (some z)) ∧ ∃ w5, (Builtin.delete_ #[45, 3] 0 #[.map (some z), .int .i64 (r.1 + r.2.1 - 1)]).run Try.prog w4 = .ok (.tuple #[]) w5 ∧ w5.cell? ⟨P, 2, none⟩ = some (.map (some z)) ∧ Taken w P v b0 z n c F L m r (.returned (.pointer (some ⟨r.2.2, 0, none⟩))) w5) := by
    refine (remove_any h.q h.ok (i := i) (k := L.length - 1) (by omega) (by omega)).mono fun e w2 hp => ?_
    have he := hp.1
    rw [hr] at he
    subst he
    obtain ⟨v', M, a, g1, g2, g3, g4, g7⟩ := take_end h hr hp
    have hrz : ∀ {q : Nat}, q = r.2.2 → q ≠ z := fun e e2 => h.zh (.inr ⟨r, by rw [← hr]; exact mem_at hi, by rw [← e2, e]⟩)
    have hb2 : Below w2.heap.size w2 w2.drew := (Below.refl _ _).drew
    refine ⟨rfl, g1.cs.2.2, by unfold robj at g4; exact cell_of g4 rfl, Lib.hid ?_⟩
    obtain ⟨w3, hrun, m3, t3⟩ := (g1.map.below hb2).drop fairQ ht wa 0
    have g5 := (g1.below hb2).ends m3 t3
    have o3 := (t3.block r.2.2 (block_lt ((hb2.block _ (block_lt g4)).trans g4)) (hrz rfl)).trans ((hb2.block _ (block_lt g4)).trans g4)
    refine ⟨w3, hrun, g5.cs.2.2, fun V hV => (last_any ((hV.block _ (block_lt o3)).trans o3) h0 h1 h2 h3).mono fun e w4 ⟨he, hb4⟩ => ?_⟩
    have g6 := (g5.below hV).below hb4
    obtain ⟨w5, hrun5, m5, t5⟩ := g6.map.drop fairQ ht wl 0
    have o4 := (hb4.block _ (block_lt ((hV.block _ (block_lt o3)).trans o3))).trans ((hV.block _ (block_lt o3)).trans o3)
    refine ⟨he, g6.cs.2.2, w5, hrun5, (g6.ends m5 t5).cs.2.2, rfl, v', M, a, g6.ends m5 t5, g2, ?_, (t5.block _ (block_lt o4) (hrz rfl)).trans o4, g7⟩
    have t := ((((Wrote.of_below (H := homeA P v' b0 z M) hb2).trans (wider t3 (fun q e => .inr (.inr e)))).trans (Wrote.of_below hV)).trans (Wrote.of_below hb4)).trans (wider t5 (fun q e => .inr (.inr e)))
    exact g3.trans t
  have hta : ∀ W, (Instr.typeAssert (.iface 52 (.pointer (some ⟨r.2.2, 0, none⟩))) 20 52 false).run Try.prog W = .ok (.pointer (some ⟨r.2.2, 0, none⟩)) W := fun W => by rfl
  clear h hi hr
  generalize r.2.2 = rb at *
  go_enter Try.func22, Try.ntmps22
  go_wp2_with fail
  with_reducible refine Calls.mono (cr) ?_
  rintro e w2 ⟨rfl, c2, c3, hN⟩
  obtain ⟨w3, hrun3, c4, hcl⟩ := hN.out
  replace hcl := Lib.hid hcl
  clear cr hN
  go_wp2_with fail
  go_region
  have hbd : Below w3.heap.size w3 w3.drew := (Below.refl _ _).drew
  go_wp2_with fail
  go_region_held3 (fun W' => W'.cell? ⟨P, 2, none⟩ = some (.map (some z))) (first | exact c4 | exact c5 | exact c6 | go_keep | assumption) (first | (go_at_call 28; ((with_reducible refine (hcl.out _ (by repeat (first | assumption | exact Below.refl _ _ | refine below_drewN ?_ _ | refine below_alloc ?_ _ | refine below_then ?_ (by assumption)))).mono ?_); rintro e w4 ⟨rfl, c5, w5, hrun5, c6, hgo⟩; replace hgo := Lib.hid hgo)))
  all_goals
    go_wp2_with fail
    go_ret
    exact hgo.out
end Pg
end Go.Proofs.Ytbheabjemaaeoab
