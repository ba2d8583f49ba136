/- code.May: 0, 1, or which instruction is the first that may not be. -/
import Derived.Test.YtapkcjbfflgplaaDoorMay2
namespace Go.Proofs.YtapkcjbfflgplaaDoor
open Go.RowKit Go.Lib Fx Ho
set_option linter.unusedVariables false
namespace Cd
variable {w w' W : World} {v fv : Value} {G nf len n : Int} {fs : List (List Ins)}
def pos (fs : List (List Ins)) : Nat → Nat
  | 0 => 0
  | i + 1 => pos fs i + (fs.getD i []).length
/-- May the j-th of function i stand there? -/
def okAt (G : Int) (fs : List (List Ins)) (i j : Nat) : Bool := okI G fs.length (fs.getD i []).length ((fs.getD i []).getD j zi)
/-- What May answers. -/
def MayIs (G : Int) (fs : List (List Ins)) (r : Int) : Prop :=
  (¬ CntOk G fs ∧ r = 1) ∨ (CntOk G fs ∧ (∀ i, i < fs.length → ∀ j, j < (fs.getD i []).length → okAt G fs i j = true) ∧ r = 0) ∨
  (CntOk G fs ∧ ∃ i j, i < fs.length ∧ j < (fs.getD i []).length ∧ (∀ i', i' < i → ∀ j', j' < (fs.getD i' []).length → okAt G fs i' j' = true) ∧ (∀ j', j' < j → okAt G fs i j' = true) ∧ okAt G fs i j = false ∧ r = 2 + (pos fs i : Int) + j)
theorem MayIs.one {r r' : Int} (h : MayIs G fs r) (h' : MayIs G fs r') : r = r' := by
  rcases h with ⟨h1, h2⟩ | ⟨h1, h2, h3⟩ | ⟨h1, i, j, hi, hj, ha, hb, hc, he⟩
  · rcases h' with ⟨g1, g2⟩ | ⟨g1, _⟩ | ⟨g1, _⟩
    · omega
    · exact absurd g1 h1
    · exact absurd g1 h1
  · rcases h' with ⟨g1, g2⟩ | ⟨g1, g2, g3⟩ | ⟨g1, i', j', hi', hj', ha', hb', hc', he'⟩
    · exact absurd h1 g1
    · omega
    · rw [h2 i' hi' j' hj'] at hc'; cases hc'
  · rcases h' with ⟨g1, g2⟩ | ⟨g1, g2, g3⟩ | ⟨g1, i', j', hi', hj', ha', hb', hc', he'⟩
    · exact absurd h1 g1
    · rw [g2 i hi j hj] at hc; cases hc
    · have e1 : i = i' := by
        rcases Nat.lt_trichotomy i i' with q | q | q
        · rw [ha' i q j hj] at hc; cases hc
        · exact q
        · rw [ha i' q j' hj'] at hc'; cases hc'
      subst e1
      have e2 : j = j' := by
        rcases Nat.lt_trichotomy j j' with q | q | q
        · rw [hb' j q] at hc; cases hc
        · exact q
        · rw [hb j' q] at hc'; cases hc'
      subst e2
      omega
theorem pos_le (h : CntOk G fs) : ∀ i, i ≤ fs.length → pos fs i ≤ 64 * i
  | 0, _ => by simp [pos]
  | i + 1, hi => by
    have ih := pos_le h i (by omega)
    have := (h.2.2.2.2 i (by omega)).2
    show pos fs i + _ ≤ _
    omega
def MayR (G : Int) (fs : List (List Ins)) (w : World) (e : Ending) (w' : World) : Prop := ∃ r : Int, e = .returned (.int .i64 r) ∧ MayIs G fs r ∧ Below w.heap.size w w'
set_option maxRecDepth 100000 in
set_option maxHeartbeats 4000000 in
theorem codemay_any (hT : Tk w) (h : FRow w v fs) (G : Int) : Calls Tryd.prog 52 #[.agg #[.int .i64 G, v]] w (MayR G fs w) := by
  obtain ⟨sp, cap, rfl, hat⟩ := h.at_
  obtain ⟨m, hm⟩ : ∃ m, fs.length = m := ⟨_, rfl⟩
  rw [hm] at hat ⊢
  have hbU : Hid (Below w.heap.size w (w.alloc (.cells #[.int .i64 G, .slice sp m cap] 49))) := Lib.hid (below_alloc (Below.refl _ _) _)
  have hC := heap_alloc_new w (.cells #[.int .i64 G, .slice sp m cap] 49)
  have c0 : (w.alloc (.cells #[.int .i64 G, .slice sp m cap] 49)).cell? ⟨w.heap.size, 0, none⟩ = some (.int .i64 G) := cell_of hC rfl
  have c1 : (w.alloc (.cells #[.int .i64 G, .slice sp m cap] 49)).cell? ⟨w.heap.size, 1, none⟩ = some (.slice sp m cap) := cell_of hC rfl
  have hP : Hid (∀ V, Below (w.alloc (.cells #[.int .i64 G, .slice sp m cap] 49)).heap.size (w.alloc (.cells #[.int .i64 G, .slice sp m cap] 49)) V → V.cell? ⟨w.heap.size, 0, none⟩ = some (.int .i64 G) ∧ V.cell? ⟨w.heap.size, 1, none⟩ = some (.slice sp m cap)) := Lib.hid fun V hb => ⟨cell_then hb c0, cell_then hb c1⟩
  have cc := counts_any (h.below hbU.out) G
  rw [hm] at cc
  have hat2 : Hid (∀ V, Below w.heap.size w V → Tk V ∧ ∀ i, i < m → ∃ b off sv cp, sp = some ⟨b, off, none⟩ ∧ V.cell? ⟨b, off + i, none⟩ = some (.slice sv (fs.getD i []).length cp) ∧ IRow V (.slice sv (fs.getD i []).length cp) (fs.getD i [])) := Lib.hid fun V hV => ⟨hT.below hV, fun i hi => hat V hV i hi⟩
  clear hat h hT hC
  obtain ⟨N, hN⟩ : ∃ N, w.heap.size = N := ⟨_, rfl⟩
  rw [hN] at c0 c1 hP
  replace hm := Lib.hid hm
  go_enter Tryd.func52, Tryd.ntmps52
  go_wp2_with fail
  obtain ⟨U, hU⟩ : ∃ U, w.alloc (.cells #[.int .i64 G, .slice sp m cap] 49) = U := ⟨_, rfl⟩
  rw [hU] at hbU c0 c1 hP cc ⊢
  clear hU
  with_reducible refine Calls.mono cc ?_
  rintro e w3 ⟨r, rfl, hr, hb3⟩
  have hb3U := Lib.hid (hbU.out.trans (hb3.mono hbU.out.size))
  have hP3 : Hid (∀ V, Below w3.heap.size w3 V → V.cell? ⟨N, 0, none⟩ = some (.int .i64 G) ∧ V.cell? ⟨N, 1, none⟩ = some (.slice sp m cap)) := Lib.hid fun V hV => hP.out V (hb3.trans (hV.mono hb3.size))
  obtain ⟨c0, c1⟩ := hP3.out w3 (Below.refl _ _)
  clear cc hP
  by_cases hr1 : ¬ CntOk G fs
  · obtain rfl : r = false := by
      cases r
      · rfl
      · exact absurd (hr.1 rfl) hr1
    have hfin : Hid (MayIs G fs 1) := Lib.hid (.inl ⟨hr1, rfl⟩)
    clear hat2 hP3 hr hr1
    go_wp2_with fail
    go_ret
    exact ⟨1, rfl, hfin.out, hb3U.out⟩
  have hr1 := Classical.byContradiction hr1
  obtain rfl : r = true := hr.2 hr1
  have hk := Lib.hid hr1
  have hm16 : m ≤ 16 := by have := hr1.2.1; have := hm.out; omega
  clear hr hr1 hb3 hbU c0
  go_wp2_with fail
  clear c1
  go_loopw [3, 5, 6, 8, 15] (fun u3 u5 u6 u8 u15 wr => ∃ i : Nat, u15 = .int .i64 i ∧ u3 = .int .i64 (1 + pos fs i : Nat) ∧ i ≤ m ∧ Hid (∀ i', i' < i → ∀ j', j' < (fs.getD i' []).length → okAt G fs i' j' = true) ∧ Hid (Below w3.heap.size w3 wr)) (fun _ _ _ _ y _ => (m - (RowKit.intOf y).toNat))
  case atStart => exact ⟨0, rfl, rfl, by omega, Lib.hid (fun i h => by omega), Lib.hid (Below.refl _ _)⟩
  case round =>
    obtain ⟨i, rfl, rfl, im, hok, hB⟩ := hrel
    have i0 : (0 : Int) ≤ (i : Int) := by omega
    have hpl := pos_le hk.out i (by have := hm.out; omega)
    have hps : Hid (pos fs (i + 1) = pos fs i + (fs.getD i []).length) := Lib.hid rfl
    obtain ⟨p, hp⟩ : ∃ p, pos fs i = p := ⟨_, rfl⟩
    rw [hp] at hpl hps ⊢
    replace hp := Lib.hid hp
    have hbw := Lib.hid (hb3U.out.trans (hB.out.mono hb3U.out.size))
    by_cases hi : i < m
    · have i1 : (i : Int) < (m : Int) := by omega
      obtain ⟨b, off, sv, cp, rfl, d0, hrow⟩ := (hat2.out wr hbw.out).2 i hi
      have hrow := Lib.hid hrow
      obtain ⟨p0, p1⟩ := hP3.out wr hB.out
      obtain ⟨l, hl⟩ : ∃ l, (fs.getD i []).length = l := ⟨_, rfl⟩
      have hl64 := (hk.out.2.2.2.2 i (by have := hm.out; omega)).2
      rw [hl] at d0 hps hl64
      replace hl := Lib.hid hl
      have cw := within_any G (m : Int) (l : Int) wr
      unfold bv at cw
      go_wp2_with fail
      with_reducible refine Calls.mono cw ?_
      rintro e w4 ⟨rfl, hb4⟩
      clear cw p0 p1
      have hbw4 := Lib.hid (hbw.out.trans (hb4.mono hbw.out.size))
      have hB4 := Lib.hid (hB.out.trans (hb4.mono hB.out.size))
      have hcells := heap_alloc_new w4 (.cells #[.int .i64 1, .int .i64 256, .int .i64 16, .int .i64 G, .int .i64 m, .int .i64 l, .int .i64 32] 130)
      have hQ : Hid (∀ V, Below (w4.alloc (.cells #[.int .i64 1, .int .i64 256, .int .i64 16, .int .i64 G, .int .i64 m, .int .i64 l, .int .i64 32] 130)).heap.size (w4.alloc (.cells #[.int .i64 1, .int .i64 256, .int .i64 16, .int .i64 G, .int .i64 m, .int .i64 l, .int .i64 32] 130)) V → V.cell? ⟨w4.heap.size, 0, none⟩ = some (.int .i64 1) ∧ V.cell? ⟨w4.heap.size, 1, none⟩ = some (.int .i64 256) ∧ V.cell? ⟨w4.heap.size, 2, none⟩ = some (.int .i64 16) ∧ V.cell? ⟨w4.heap.size, 3, none⟩ = some (.int .i64 G) ∧ V.cell? ⟨w4.heap.size, 4, none⟩ = some (.int .i64 m) ∧ V.cell? ⟨w4.heap.size, 5, none⟩ = some (.int .i64 l) ∧ V.cell? ⟨w4.heap.size, 6, none⟩ = some (.int .i64 32)) := Lib.hid fun V hb => ⟨cell_then hb (cell_of hcells rfl), cell_then hb (cell_of hcells rfl), cell_then hb (cell_of hcells rfl), cell_then hb (cell_of hcells rfl), cell_then hb (cell_of hcells rfl), cell_then hb (cell_of hcells rfl), cell_then hb (cell_of hcells rfl)⟩
      have hbw5 := Lib.hid (below_alloc hbw4.out (.cells #[.int .i64 1, .int .i64 256, .int .i64 16, .int .i64 G, .int .i64 m, .int .i64 l, .int .i64 32] 130))
      have hB5 := Lib.hid (below_alloc hB4.out (.cells #[.int .i64 1, .int .i64 256, .int .i64 16, .int .i64 G, .int .i64 m, .int .i64 l, .int .i64 32] 130))
      have hrow5 : Hid (IRow (w4.alloc (.cells #[.int .i64 1, .int .i64 256, .int .i64 16, .int .i64 G, .int .i64 m, .int .i64 l, .int .i64 32] 130)) (.slice sv (fs.getD i []).length cp) (fs.getD i [])) := Lib.hid (hrow.out.below (below_alloc hb4 _))
      clear hcells hrow hbw hbw4 hB4 hb4
      obtain ⟨K, hK⟩ : ∃ K, w4.heap.size = K := ⟨_, rfl⟩
      rw [hK] at hQ
      go_wp2_with fail
      obtain ⟨w5, hw5⟩ : ∃ w5, w4.alloc (.cells #[.int .i64 1, .int .i64 256, .int .i64 16, .int .i64 G, .int .i64 m, .int .i64 l, .int .i64 32] 130) = w5 := ⟨_, rfl⟩
      rw [hw5] at hQ hbw5 hB5 hrow5 ⊢
      clear hw5 hK d0
      go_loopw [3, 8, 29] (fun u3 u8 u29 wx => ∃ j : Nat, u29 = .int .i64 j ∧ u3 = .int .i64 (1 + p + j : Nat) ∧ j ≤ l ∧ Hid (∀ j', j' < j → okAt G fs i j' = true) ∧ Hid (Below w5.heap.size w5 wx)) (fun _ _ y _ => (l - (RowKit.intOf y).toNat))
      case atStart => exact ⟨0, rfl, rfl, by omega, Lib.hid (fun i h => by omega), Lib.hid (Below.refl _ _)⟩
      case round =>
        obtain ⟨j, rfl, rfl, jl, hokj, hBj⟩ := hrel
        have j0 : (0 : Int) ≤ (j : Int) := by omega
        have hbwj := Lib.hid (hbw5.out.trans (hBj.out.mono hbw5.out.size))
        by_cases hj : j < l
        · have j1 : (j : Int) < (l : Int) := by omega
          obtain ⟨g, o, op, a, b', c, rfl, hins, d0, d1, d2, d3⟩ := hrow5.out.at_ wr hBj.out j (by have := hl.out; omega)
          have hokE : Hid (okAt G fs i j = okI G m l (op, a, b', c)) := Lib.hid (by unfold okAt; rw [hm.out, hl.out, hins])
          have hin := heap_alloc_new wr (.cells #[.int .i64 op, .int .i64 a, .int .i64 b', .int .i64 c] 29)
          have e0 : (wr.alloc (.cells #[.int .i64 op, .int .i64 a, .int .i64 b', .int .i64 c] 29)).cell? ⟨wr.heap.size, 0, none⟩ = some (.int .i64 op) := cell_of hin rfl
          have e1 : (wr.alloc (.cells #[.int .i64 op, .int .i64 a, .int .i64 b', .int .i64 c] 29)).cell? ⟨wr.heap.size, 1, none⟩ = some (.int .i64 a) := cell_of hin rfl
          have e2 : (wr.alloc (.cells #[.int .i64 op, .int .i64 a, .int .i64 b', .int .i64 c] 29)).cell? ⟨wr.heap.size, 2, none⟩ = some (.int .i64 b') := cell_of hin rfl
          have e3 : (wr.alloc (.cells #[.int .i64 op, .int .i64 a, .int .i64 b', .int .i64 c] 29)).cell? ⟨wr.heap.size, 3, none⟩ = some (.int .i64 c) := cell_of hin rfl
          have hBa := Lib.hid (below_alloc hBj.out (.cells #[.int .i64 op, .int .i64 a, .int .i64 b', .int .i64 c] 29))
          have hbwa := Lib.hid (below_alloc hbwj.out (.cells #[.int .i64 op, .int .i64 a, .int .i64 b', .int .i64 c] 29))
          obtain ⟨q0, q1, q2, q3, q4, q5, q6⟩ := hQ.out _ hBa.out
          have cm := may_any (G := G) (nf := m) (len := l) (op, a, b', c) (hat2.out _ hbwa.out).1
          unfold bv at cm
          simp only at cm
          clear hin hbwj
          have z1 : (p : Int) ≤ 2000 := by omega
          have z2 : ((1 + p + j : Nat) : Int) + 1 = ((1 + p + (j + 1) : Nat) : Int) := by omega
          have z3 : IntKind.i64.wrap (((1 + p + j : Nat) : Int) + 1) = ((1 + p + (j + 1) : Nat) : Int) := by rw [IntKind.wrap_i64]; omega
          obtain ⟨J, hJ⟩ : ∃ J, wr.heap.size = J := ⟨_, rfl⟩
          rw [hJ] at e0 e1 e2 e3
          go_wp2_with fail
          obtain ⟨w6, hw6⟩ : ∃ w6, wr.alloc (.cells #[.int .i64 op, .int .i64 a, .int .i64 b', .int .i64 c] 29) = w6 := ⟨_, rfl⟩
          rw [hw6] at cm hBa hbwa ⊢
          clear hw6 e0 e1 e2 e3 q0 q1 q2 q3 q4 q5 q6 d0 d1 d2 d3 hBj
          with_reducible refine Calls.mono cm ?_
          rintro e w7 ⟨rfl, hb7⟩
          clear cm
          have hB7 := Lib.hid (hBa.out.trans (hb7.mono hBa.out.size))
          cases hv : okI G m l (op, a, b', c) with
          | true =>
            have hok2 : Hid (∀ j', j' < j + 1 → okAt G fs i j' = true) := Lib.hid fun j' h => by
              rcases Nat.lt_or_ge j' j with q | q
              · exact hokj.out j' q
              · rw [show j' = j by omega, hokE.out]; exact hv
            clear hokj hokE hv hins
            go_wp2_with fail
            go_roundw
            case rel => exact ⟨j + 1, by go_num, rfl, by omega, hok2, hB7⟩
            case measure => simp [RowKit.intOf]; omega
          | false =>
            have hfin : Hid (MayIs G fs ((1 + p + (j + 1) : Nat) : Int)) := Lib.hid (.inr (.inr ⟨hk.out, i, j, by have := hm.out; omega, by have := hl.out; omega, hok.out, hokj.out, by rw [hokE.out]; exact hv, by rw [hp.out]; omega⟩))
            have hbw7 := Lib.hid (hbwa.out.trans (hb7.mono hbwa.out.size))
            clear hokj hokE hv hins hok
            go_wp2_with fail
            go_ret
            exact ⟨_, rfl, hfin.out, hbw7.out⟩
        · obtain rfl : j = l := by omega
          have j1 : ¬ (j : Int) < (j : Int) := by omega
          have hok2 : Hid (∀ i', i' < i + 1 → ∀ j', j' < (fs.getD i' []).length → okAt G fs i' j' = true) := Lib.hid fun i' h j' hj' => by
            rcases Nat.lt_or_ge i' i with q | q
            · exact hok.out i' q j' hj'
            · obtain rfl : i' = i := by omega
              exact hokj.out j' (by have := hl.out; omega)
          have hB8 := Lib.hid (hB5.out.trans (hBj.out.mono hB5.out.size))
          have hps2 : Hid ((1 + p + j : Nat) = 1 + pos fs (i + 1)) := Lib.hid (by rw [hps.out]; omega)
          clear hokj hok hbwj
          go_wp2_with fail
          go_roundw
          case rel => exact ⟨i + 1, by go_num, by rw [hps2.out], by omega, hok2, hB8⟩
          case measure => simp [RowKit.intOf]; omega
    · obtain rfl : i = m := by omega
      have i1 : ¬ (i : Int) < (i : Int) := by omega
      have hfin : Hid (MayIs G fs 0) := Lib.hid (.inr (.inl ⟨hk.out, by rw [hm.out]; exact hok.out, rfl⟩))
      clear hok hat2
      go_wp2_with fail
      go_ret
      exact ⟨0, rfl, hfin.out, hbw.out⟩
end Cd
end Go.Proofs.YtapkcjbfflgplaaDoor
