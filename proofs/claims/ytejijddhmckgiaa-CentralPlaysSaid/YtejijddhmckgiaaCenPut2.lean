/- Spans in common: what Put answers and makes. -/
import Derived.Test.YtejijddhmckgiaaCenPut
namespace Go.Proofs.Ytejijddhmckgiaa
open Go.RowKit Go.Lib Fx Ho Rw Mp
set_option linter.unusedVariables false
namespace Ce
variable {w w' W : World} {p R z n r N o k : Nat} {Q : Rows} {sp : Int → Nat} {H H' : Home} {x y i : Int} {P S : List Int}
theorem wrote_heap {H : Home} {a b : World} (hh : b.heap = a.heap) (h1 : b.os = a.os) (h2 : b.tape = a.tape) (h3 : b.output = a.output) : Wrote H a H b := ⟨h1, h2, h3, by rw [hh]; exact Nat.le_refl _, fun k _ _ => by rw [hh], fun k hk => .inl hk⟩
theorem step_call2 {P : Program} {ops : Array Oper} {o : Oper} {a : Act} {w : World} {K : Act → World → Prop} {Q : Exit → Act → World → Prop} {E : Prop} (hgd : o.guard = none) (f : Nat) (x1 x2 : Operand) {ts : Array TypeId} (ho : o.op = .call { callee := .value (.func f), args := #[x1, x2], argTypes := ts }) (v1 v2 : Value) (ha1 : a.eval x1 = v1) (ha2 : a.eval x2 = v2) (hcf : (callFunc f #[v1, v2]).run P w = .ok (.enter f #[v1, v2]) w) {post : Ending → World → Prop}
    (hc : Calls P f #[v1, v2] w post) (hK : ∀ e w', post e w' → ∃ v, e = .returned v ∧ K (a.put o.dst v) w') : if Region.wanted o (yielded ops a.tmps) = true then Oper.wp P o a w K Q else E :=
  step_call hgd f #[x1, x2] ho #[v1, v2] (by simp [ha1, ha2]) hcf hc hK
/-- The row's own put, with what the map asks behind it. -/
theorem put_mid (h : IsC w p R z n Q sp) (hr : r < 64) (hno : ∀ s, s < 64 → x ∉ Q s) (hx : (Lit.int .i64 x).wf = true) (ho : o = r * 3) (hn : n ≤ 1000000) : ∀ W, W.heap = w.heap → W.os = w.os → W.tape = w.tape → W.output = w.output → Calls Try.prog 63 #[.pointer (some ⟨R, o, none⟩), .int .i64 x] W fun e w5 => ∃ N, e = .returned (.pointer (some ⟨N, 0, none⟩)) ∧ w5.cell? ⟨p, 0, none⟩ = some (.slice (some ⟨R, 0, none⟩) 16 16) ∧ w5.cell? ⟨p, 1, none⟩ = some (.map (some z)) ∧ Hid (IMap RP (.pointer none) w5 z n (mpv Q sp)) ∧ Hid (∀ w6, IMap RP (.pointer none) w6 z (n + 1) (up (mpv Q sp) x (.pointer (some ⟨N, 0, none⟩))) → Wrote (fun k => k = z) w5 (fun k => k = z) w6 → ∃ sp', Wrote (CH p R z Q sp) w (CH p R z (upd Q r (Q r ++ [x])) sp') w6 ∧ IsC w6 p R z (n + 1) (upd Q r (Q r ++ [x])) sp') := fun W hh h1 h2 h3 =>
  (rput_any (h.rows.of_heap hh) hr ho hno (Nat.le_trans (h.small r) hn)).mono fun e w5 ⟨N, he, hN, hw5, hrow⟩ => by
    have hw : Wrote (RH R Q sp) w (RH R (upd Q r (Q r ++ [x])) (updI sp x N)) w5 := (wrote_heap hh h1 h2 h3).trans hw5
    have hp1 : ¬ RH R Q sp p := off_rh h.pR h.sp_p
    have hz1 : ¬ RH R Q sp z := off_rh h.Rz.symm h.sp_z
    refine ⟨N, he, hw.cell h.c0 hp1, hw.cell h.c1 hp1, Lib.hid (h.map.wrote hw hz1), Lib.hid fun w6 g1 g2 => ⟨_, put_end h hr hno hx (by rw [hh] at hN; exact hN) hw hrow g1 g2⟩⟩
set_option maxRecDepth 100000 in
theorem put_no (h : IsC w p R z n Q sp) (hi : i < 0 ∨ 16 ≤ i) (b : Bool) : Calls Try.prog 20 #[.pointer (some ⟨p, 0, none⟩), .int .i64 i, .int .i64 x, .bool b] w (Still (.tuple #[]) w) := by
  have cm := may_no h hi
  clear h hi
  go_enter Try.func20, Try.ntmps20
  go_wp2_with fail
  with_reducible refine Calls.mono cm ?_
  rintro e w1 ⟨rfl, e1⟩
  subst e1
  go_wp2_with fail
  go_end0
  exact ⟨rfl, rfl⟩
set_option maxRecDepth 100000 in
set_option maxHeartbeats 2000000 in
theorem put_any (h : IsC w p R z n Q sp) (hn : n ≤ 1000000) (hk : k < 16) (hx : (Lit.int .i64 x).wf = true) (b : Bool) : Calls Try.prog 20 #[.pointer (some ⟨p, 0, none⟩), .int .i64 k, .int .i64 x, .bool b] w (Makes (.tuple #[]) w p R z n Q sp (n + 1) (putQ Q (k * 4 + cond b 1 0) x)) := by
  have cm := may_yes h hk
  have cd := del_any h hn hx
  have h1 : (0 : Int) ≤ (k : Int) := by omega
  have h2 : (k : Int) < 16 := by omega
  have hn5 : n < maxLen := by unfold maxLen; omega
  have hnext : Hid (∀ w2, Makes (.bool (inQ Q x)) w p R z n Q sp n (delQ Q x) (.returned (.bool (inQ Q x))) w2 → w2.cell? ⟨p, 0, none⟩ = some (.slice (some ⟨R, 0, none⟩) 16 16) ∧ w2.cell? ⟨p, 1, none⟩ = some (.map (some z)) ∧ ∃ Q2 sp2, Hid (∀ W, W.heap = w2.heap → W.os = w2.os → W.tape = w2.tape → W.output = w2.output → Calls Try.prog 63 #[.pointer (some ⟨R, k * 12 + cond b 3 0, none⟩), .int .i64 x] W fun e w5 => ∃ N, e = .returned (.pointer (some ⟨N, 0, none⟩)) ∧ w5.cell? ⟨p, 0, none⟩ = some (.slice (some ⟨R, 0, none⟩) 16 16) ∧ w5.cell? ⟨p, 1, none⟩ = some (.map (some z)) ∧ Hid (IMap RP (.pointer none) w5 z n (mpv Q2 sp2)) ∧ Hid (∀ w6, IMap RP (.pointer none) w6 z (n + 1) (up (mpv Q2 sp2) x (.pointer (some ⟨N, 0, none⟩))) → Wrote (fun k => k = z) w5 (fun k => k = z) w6 → Makes (.tuple #[]) w p R z n Q sp (n + 1) (putQ Q (k * 4 + cond b 1 0) x) (.returned (.tuple #[])) w6))) := Lib.hid fun w2 ⟨sp2, _, hw, hc⟩ => by
    refine ⟨hc.c0, hc.c1, delQ Q x, sp2, Lib.hid fun W e1 e2 e3 e4 => (put_mid (r := k * 4 + cond b 1 0) hc (by cases b <;> simp <;> omega) (fun s hs => delQ_no h.rows hs) hx (by cases b <;> simp <;> omega) hn W e1 e2 e3 e4).mono fun e w5 ⟨N, he, a0, a1, a2, a3⟩ => ⟨N, he, a0, a1, a2, Lib.hid fun w6 g1 g2 => ?_⟩⟩
    obtain ⟨sp', b1, b2⟩ := a3.out w6 g1 g2
    exact ⟨sp', rfl, hw.trans b1, b2⟩
  clear h
  go_enter Try.func20, Try.ntmps20
  go_wp2_with fail
  with_reducible refine Calls.mono cm ?_
  rintro e w1 ⟨rfl, e1⟩
  subst e1
  clear cm
  go_wp2_with fail
  with_reducible refine Calls.mono cd ?_
  rintro e w2 hm
  obtain ⟨sp', rfl, _, _⟩ := id hm
  obtain ⟨c0, c1, Q2, sp2, hP⟩ := hnext.out w2 hm
  clear hnext hm cd
  generalize inQ Q x = bb at *
  cases b
  all_goals
    simp only [cond_true, cond_false, Nat.add_zero] at hP ⊢
    go_wp2_with fail
    go_region_law (refine step_call2 rfl 63 (.tmp 30) (.tmp 31) rfl (.pointer (some ⟨R, _, none⟩)) (.int .i64 x) ?_ ?_ ?_ (hP.out _ ?_ ?_ ?_ ?_) ?_; rfl; rfl; rfl; rfl; rfl; rfl; rfl; rintro e w5 ⟨N, rfl, c0', c1', hm5, hend5⟩; obtain ⟨w6, hrun, g1, g2⟩ := hm5.out.store Try.underlying102 hn5 hx (v := .pointer (some ⟨N, 0, none⟩)) (d := .lit (.int .i64 N)) rfl; have hgo := Lib.hid (hend5.out w6 g1 g2); clear g1 g2 hm5 hend5; refine ⟨_, rfl, ?_⟩)
  all_goals
    go_wp2_with fail
    go_end0
    exact hgo.out
end Ce
end Go.Proofs.Ytejijddhmckgiaa
