/- What package queue's Get answers. -/
import Derived.Test.YtpclacaiabbmjaaQueue
namespace Go.Proofs.Ytpclacaiabbmjaa
open Go.RowKit Go.Lib Fx Ho
set_option linter.unusedVariables false
namespace Qu
variable {w w' : World} {p : Nat} {v : Value} {zs : List Int} {H H' : Home}
/-- What is left of a row once its first ones are gone. -/
theorem OffRow.drop {sp a1 : Option Addr} {n cap : Nat} (h : OffRow w (.slice sp zs.length cap) zs) (hn : n ≤ zs.length) (ha : a1 = sp.map (·.add n) ∨ cap = n ∧ a1 = sp) : OffRow w (.slice a1 (zs.length - n) (cap - n)) (zs.drop n) := by
  obtain ⟨ao, b, off, cap', e, hc, hm, hxx⟩ := h
  cases e
  have hle := hc.le
  rcases ha with rfl | ⟨rfl, rfl⟩
  · refine ⟨_, b, off + n, cap - n, by rw [List.length_drop], ⟨by rw [List.length_drop]; omega, fun h0 => ?_, fun h0 => hc.lt (by omega), by rw [cells_len]; omega, fun j u hj => ?_, fun j hj => ?_⟩, ⟨by have := hm.1; omega, fun j hj => by rw [Nat.add_assoc]; exact hm.2 (n + j) (by omega)⟩, hxx.elim (fun e => .inl ⟨by rw [e.1]; simp [addr_add], e.2⟩) (fun e => .inr ⟨by rw [e.1]; rfl, by omega⟩)⟩
    · rw [hc.addr (by omega)]; simp [addr_add]
    · rw [Nat.add_assoc]
      refine hc.olds (n + j) u ?_
      unfold cells at hj ⊢
      rw [List.map_drop, List.getElem?_drop] at hj
      exact hj
    · rw [List.length_drop] at hj ⊢
      have := hc.spare j (by omega)
      rw [show off + n + (zs.length - n) * 1 + j = off + zs.length * 1 + j by omega]
      exact this
  · have hz : zs.drop cap = [] := List.drop_eq_nil_of_le hle
    rw [hz, show zs.length - cap = 0 by omega, Nat.sub_self]
    exact ⟨_, b, off, 0, rfl, ⟨Nat.le_refl _, fun h0 => by omega, fun h0 => by omega, rfl, fun j u hj => by simp [cells] at hj, fun j hj => by omega⟩, ⟨by decide, fun j hj => by omega⟩, hxx.elim .inl (fun e => .inr ⟨e.1, rfl⟩)⟩
theorem min_four (P : Program) (ts : Array TypeId) (t : TypeId) (x y z u n : Nat) (h : n = min (min (min x y) z) u) (W : World) : (Builtin.min_ ts t #[.int .i64 (x : Int), .int .i64 (y : Int), .int .i64 (z : Int), .int .i64 (u : Int)]).run P W = .ok (.int .i64 (n : Int)) W := by
  subst h
  simp [Builtin.min_, Builtin.min2]
  omega
set_option maxRecDepth 100000 in
set_option maxHeartbeats 1000000 in
theorem get_gen (w : World) (h : IsQ w p v zs) {q m n : Nat} {ps am : Int} (hps : (if 1 > ps then 1 else ps) = (q : Int)) (ham : (if 0 > am then 0 else am) = (m : Int)) (hq : 1 ≤ q) (hq2 : q ≤ 9223372036854775807) (hm : m ≤ 9223372036854775807) (hs : zs.length ≤ 1000000) (hn : n = min (min (min (zs.length / q + 1) m) 128) zs.length) :
    Calls Try.prog 129 #[.pointer (some ⟨p, 0, none⟩), .int .i64 ps, .int .i64 am] w (fun e w' => ∃ r v', e = .returned r ∧ Wrote (home p v) w (home p v') w' ∧ IsQ w' p v' (zs.drop n) ∧ w'.ownsRow w.heap.size 3 1 r n (cells (zs.take n)) ∧ Wrote (fun k => k = p) w (fun k => k = p) w' ∧ (∀ k, v'.ownBlock = some k → v.ownBlock = some k)) := by
  have c0 := h.c0
  have hle : n ≤ zs.length := by omega
  have hdiv : zs.length / q ≤ zs.length := Nat.div_le_self _ _
  have hmin := fun (ts : Array TypeId) (t : TypeId) (W : World) => min_four Try.prog ts t (zs.length / q + 1) m 128 zs.length n hn W
  have hmax1 : ∀ (ts : Array TypeId) (t : TypeId) (W : World), (Builtin.max_ ts t #[.int .i64 ps, .int .i64 1]).run Try.prog W = .ok (.int .i64 (q : Int)) W := fun ts t W => by
    rw [run_max_int2, hps]
  have hmax2 : ∀ (ts : Array TypeId) (t : TypeId) (W : World), (Builtin.max_ ts t #[.int .i64 am, .int .i64 0]).run Try.prog W = .ok (.int .i64 (m : Int)) W := fun ts t W => by
    rw [run_max_int2, ham]
  have hquo : (zs.length : Int).tdiv (q : Int) = ((zs.length / q : Nat) : Int) := by
    rw [Int.tdiv_eq_ediv_of_nonneg (by omega)]; omega
  have hq0 : ((q : Int) == 0) = false := by rw [beq_eq_false_iff_ne]; omega
  have hrow := h.row
  obtain ⟨ao, b, off, cap, rfl, hc, ⟨hmx, _⟩, hxx⟩ := h.row
  have hp := block_lt h.head
  have htl : (zs.take n).length = n := by rw [List.length_take]; omega
  have hend : Hid (∀ w2 r, Below w.heap.size w w2 → w2.ownsRow w.heap.size 3 1 r n (cells (zs.take n)) → w2.cell? ⟨p, 0, none⟩ = some (.slice ao zs.length cap) ∧ w2.frozen? ⟨p, 0, none⟩ = false ∧
      Hid (∀ W v1 a1, v1 = .slice a1 (zs.length - n) (cap - n) → (a1 = ao.map (·.add n) ∨ cap = n ∧ a1 = ao) → W = w2.setCell ⟨p, 0, none⟩ v1 → Wrote (home p (.slice ao zs.length cap)) w (home p v1) W ∧ IsQ W p v1 (zs.drop n) ∧ W.ownsRow w.heap.size 3 1 r n (cells (zs.take n)) ∧ Wrote (fun k => k = p) w (fun k => k = p) W ∧ (∀ k, v1.ownBlock = some k → (Value.slice ao zs.length cap).ownBlock = some k))) := fun w2 r hb ho => by
    have h2 := h.below hb
    refine ⟨h2.c0, h2.fz, fun W v1 a1 e1 ea e2 => ?_⟩
    subst e1
    have hrd := h2.row.drop hle ea
    have hown : (fun k => (Value.slice ao zs.length cap).ownBlock = some k) = fun k => (Value.slice a1 (zs.length - n) (cap - n)).ownBlock = some k := by
      rcases hxx with ⟨rfl, _⟩ | ⟨rfl, rfl⟩ <;> rcases ea with rfl | ⟨_, rfl⟩
      · simp only [Option.map_some, addr_add]; rfl
      · rfl
      · rfl
      · rfl
    have hst := h2.stored hrd (hown ▸ Wrote.refl _ _) e2
    have hw := wrote_setCell (H := fun k => k = p) (w := w2) (W := W) (a := ⟨p, 0, none⟩) (by rw [e2]) (by rw [e2]; rfl) (by rw [e2]; rfl) (by rw [e2]; rfl) rfl
    exact ⟨(Wrote.of_below hb).trans hst.1, hst.2, ho.kept (row := some p) ⟨hw.os, hw.tape, hw.output, hw.size, fun k hk hne => hw.block k hk (fun e => hne (by rw [show k = p from e]))⟩ (Or.inr fun e => by have := (ho.lt p e).1; omega), (Wrote.of_below hb).trans hw, fun k hk => by have e := congrFun hown k; rw [e]; exact hk⟩
  clear hn hrow hps ham
  have hcl : Hid (∀ i, i < n → w.drew.cell? ⟨b, off + i, none⟩ = some (.int .i64 ((zs.take n).getD i 0))) := fun i hi => by
    refine (hc.olds i _ ?_)
    unfold cells
    rw [List.getElem?_map, List.getD_eq_getElem?_getD, List.getElem?_take_of_lt hi, List.getElem?_eq_getElem (by omega)]; rfl
  have hcap := hc.le
  clear h hc
  rcases hxx with ⟨rfl, _⟩ | ⟨rfl, rfl⟩
  · have cc : Hid (Calls Try.prog 108 #[.slice (some ⟨b, off, none⟩) n cap] w.drew fun e w' => ∃ v', e = .returned v' ∧ Below w.heap.size w.drew w' ∧ w'.ownsRow w.heap.size 3 1 v' n (cells (zs.take n))) := clone_any (w := w.drew) htl (by omega) hcl.out
    clear hcl htl
    generalize hd : zs.length / q = d at *
    clear hd
    push_cast at hmin
    generalize cells (zs.take n) = CT at *
    generalize zs.drop n = D at *
    generalize zs.length = l at *
    go_enter Try.func129, Try.ntmps129
    go_wp2_with fail
    go_region
    clear hmin hmax1 hmax2
    go_wp2_with fail
    with_reducible refine Calls.mono cc.out ?_
    rintro e w2 ⟨r, rfl, hb, ho⟩
    have hk := hend.out w2 r ((below_drewN (Below.refl _ _) 1).trans hb) ho
    obtain ⟨f0, ff, hfin⟩ := hk
    obtain ⟨rs, rc, rfl⟩ := own_slice ho
    clear hend cc ho
    go_wp2_with fail
    · go_ret
      subst h
      exact ⟨_, rfl, _, hfin.out _ (.slice (some ⟨b, off, none⟩) (l - cap) 0) (some ⟨b, off, none⟩) (by rw [Nat.sub_self]) (.inr ⟨rfl, rfl⟩) rfl⟩
    · go_ret
      exact ⟨_, rfl, _, hfin.out _ (.slice (some ⟨b, off + n, none⟩) (l - n) (cap - n)) (some ⟨b, off + n, none⟩) rfl (.inl (by simp [addr_add])) rfl⟩
  · have hz : zs = [] := List.eq_nil_of_length_eq_zero (by omega)
    subst hz
    obtain rfl : n = 0 := by simpa using hle
    simp only [List.length_nil, List.take_nil, List.drop_nil, Nat.zero_div, Nat.sub_self] at *
    have hend2 := hend.out
    clear hend hcl
    push_cast at hmin
    have cc := clone_nil w.drew
    go_enter Try.func129, Try.ntmps129
    go_wp2_with fail
    go_region
    clear hmin hmax1 hmax2
    go_wp2_with fail
    with_reducible refine Calls.mono cc ?_
    rintro e w2 ⟨rfl, rfl⟩
    have hk := hend2 w.drew (.slice none 0 0) (below_drewN (Below.refl _ _) 1) ⟨rfl, Or.inl ⟨rfl, rfl⟩⟩
    obtain ⟨f0, ff, hfin⟩ := hk
    clear hend2 cc
    go_wp2_with fail
    go_ret
    exact ⟨_, _, rfl, hfin.out _ (.slice none 0 0) none rfl (.inl rfl) rfl⟩
theorem get_any (w : World) (h : IsQ w p v zs) {q m n : Nat} (hq : 1 ≤ q) (hq2 : q ≤ 4611686018427387904) (hm : m ≤ 4611686018427387904) (hs : zs.length ≤ 1000000) (hn : n = min (min (min (zs.length / q + 1) m) 128) zs.length) :
    Calls Try.prog 129 #[.pointer (some ⟨p, 0, none⟩), .int .i64 q, .int .i64 m] w (fun e w' => ∃ r v', e = .returned r ∧ Wrote (home p v) w (home p v') w' ∧ IsQ w' p v' (zs.drop n) ∧ w'.ownsRow w.heap.size 3 1 r n (cells (zs.take n))) :=
  (get_gen w h (ps := q) (am := m) (by rw [if_neg (by omega)]) (by rw [if_neg (by omega)]) hq (by omega) (by omega) hs hn).mono fun _ _ ⟨r, v', h1, h2, h3, h4, _⟩ => ⟨r, v', h1, h2, h3, h4⟩
end Qu
end Go.Proofs.Ytpclacaiabbmjaa
