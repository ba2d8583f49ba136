/- Spans in common: what New and Put answer and make. -/
import Derived.Test.YtejijddhmckgiaaCenDo
namespace Go.Proofs.Ytejijddhmckgiaa
open Go.RowKit Go.Lib Fx Ho Rw Mp
set_option linter.unusedVariables false
namespace Ce
variable {w w' W : World} {p R z n r N o k : Nat} {Q : Rows} {sp : Int → Nat} {H H' : Home} {x y i : Int} {P S : List Int}
theorem step_call {P : Program} {ops : Array Oper} {o : Oper} {a : Act} {w : World} {K : Act → World → Prop} {Q : Exit → Act → World → Prop} {E : Prop} (hgd : o.guard = none) (f : Nat) (xs : Array Operand) {ts : Array TypeId} (ho : o.op = .call { callee := .value (.func f), args := xs, argTypes := ts }) (args : Array Value) (ha : xs.map a.eval = args) (hcf : (callFunc f args).run P w = .ok (.enter f args) w) {post : Ending → World → Prop}
    (hc : Calls P f args w post) (hK : ∀ e w', post e w' → ∃ v, e = .returned v ∧ K (a.put o.dst v) w') : if Region.wanted o (yielded ops a.tmps) = true then Oper.wp P o a w K Q else E := by
  subst ha
  have hw : Region.wanted o (yielded ops a.tmps) = true := by simp [Region.wanted, hgd]
  rw [if_pos hw]
  unfold Oper.wp
  have hrun : (execOp a.eval o).run P w = .ok (.enter f (xs.map a.eval)) w := by
    simp [execOp, ho, resolve, invoke, Act.eval, Deferred.ofValue, hcf]
  rw [hrun, Oper.upon_enter]
  refine hc.mono fun e w'' hh => ?_
  obtain ⟨v, rfl, h⟩ := hK _ _ hh
  exact h
theorem step_put {ops : Array Oper} {o : Oper} {a : Act} {K : Act → World → Prop} {Q : Exit → Act → World → Prop} {E : Prop} {Rd : Rdr} {zv : Value} {b n : Nat} {m : Int → Value} (hgd : o.guard = none) (mm x v : Operand) (t : TypeId) (hop : o.op = Op.mapUpdate t mm x v) {e : TypeId} (ht : Try.prog.underlying t = some (.map 3 e))
    (h : IMap Rd zv w b n m) (hm : a.eval mm = .map (some b)) (hn : n < maxLen) {k : Int} (hk : (Lit.int .i64 k).wf = true) {val : Value} {d : DataW Unit} (hx : a.eval x = .int .i64 k) (hv : a.eval v = val) (hR : Rd val = some (d, []))
    (hK : ∀ w', IMap Rd zv w' b (n + 1) (up m k val) → Wrote (fun k => k = b) w (fun k => k = b) w' → K (a.put o.dst undef) w') : if Region.wanted o (yielded ops a.tmps) = true then Oper.wp Try.prog o a w K Q else E := by
  have hw : Region.wanted o (yielded ops a.tmps) = true := by simp [Region.wanted, hgd]
  rw [if_pos hw]
  obtain ⟨w', hrun, r1, r2⟩ := h.store ht hn hk hR
  unfold Oper.wp
  simp [execOp, hop, hm, hx, hv, hrun, Result.andThen]
  exact hK w' r1 r2
def row0 : Array Value := #[.pointer none, .pointer none, .int .i64 0, .pointer none, .pointer none, .int .i64 0, .pointer none, .pointer none, .int .i64 0, .pointer none, .pointer none, .int .i64 0]
def rows0 : Array Value := madeCells row0 192
theorem rows0_at (j : Nat) (hj : j < 192) : rows0[j]? = some row0[j % 12]! := by
  unfold rows0 madeCells
  rw [Array.getElem?_map, Array.getElem?_range, if_pos hj]
  rfl
theorem infoRow : (Try.prog.info? 109).map (fun i => (i.zero.map (·.cells), i.size, i.bytes)) = some (some row0, 12, 96) := by kernel_rfl
theorem make_rows (w : World) : (Instr.makeSlice 101 (.int .i64 16) (.int .i64 16)).run Try.prog w = .ok (.slice (some ⟨w.heap.size, 0, none⟩) 16 16) (w.alloc (.cells rows0 109)) := by
  obtain ⟨i, hi, hzz⟩ := Option.map_eq_some_iff.1 infoRow
  simp only [Prod.mk.injEq] at hzz
  obtain ⟨hz, hs, hb⟩ := hzz
  obtain ⟨z, hz1, hz2⟩ := Option.map_eq_some_iff.1 hz
  have := run_make (P := Try.prog) w 101 109 i z Try.underlying101 hi hz1 .i64 .i64 16 16 (by omega) (by omega) (by rw [hb]; omega) (by omega)
  rw [this, hz2, hs]; rfl
set_option maxRecDepth 100000 in
set_option maxHeartbeats 1000000 in
theorem new_any (w : World) : Calls Try.prog 19 #[] w fun e w' => ∃ p R z, e = .returned (.pointer (some ⟨p, 0, none⟩)) ∧ Below w.heap.size w w' ∧ (w.heap.size ≤ p ∧ w.heap.size ≤ R ∧ w.heap.size ≤ z) ∧ IsC w' p R z 0 (fun _ => []) (fun _ => 0) := by
  have cc := count_any w
  have hmk := make_rows
  have hmm := @run_makeMap Try.prog
  have hend : Hid (∀ m, Below w.heap.size w (((((w.drewN m).alloc (.cells rows0 109)).alloc (.map #[] 0)).alloc (.cells #[.slice (some ⟨w.heap.size, 0, none⟩) 16 16, .map (some (w.heap.size + 1))] 104))) ∧ IsC (((((w.drewN m).alloc (.cells rows0 109)).alloc (.map #[] 0)).alloc (.cells #[.slice (some ⟨w.heap.size, 0, none⟩) 16 16, .map (some (w.heap.size + 1))] 104))) (w.heap.size + 1 + 1) w.heap.size (w.heap.size + 1) 0 (fun _ => []) (fun _ => 0)) := Lib.hid fun m => by
    have s1 : ((w.drewN m).alloc (.cells rows0 109)).heap.size = w.heap.size + 1 := size_new (w.drewN m) _
    have s2 : (((w.drewN m).alloc (.cells rows0 109)).alloc (.map #[] 0)).heap.size = w.heap.size + 1 + 1 := by rw [size_new, s1]
    refine ⟨below_alloc (below_alloc (below_alloc (below_drewN (Below.refl _ _) m) _) _) _, ⟨?_, ⟨⟨rows0, ?_, fun r hr => ⟨?_, ?_, ?_⟩⟩, fun r hr P x S e => by simp at e, fun r hr => List.nodup_nil, fun r s x _ _ h => by simp at h, fun r s x y _ _ h => by simp at h, fun r x _ h => by simp at h⟩, ?_, by omega, by omega, by omega, fun r x _ h => by simp at h, fun r x _ h => by simp at h, fun r x _ h => by simp at h, fun _ _ => rfl, fun _ => Nat.le_refl _⟩⟩
    · have := heap_alloc_new (((w.drewN m).alloc (.cells rows0 109)).alloc (.map #[] 0)) (.cells #[.slice (some ⟨w.heap.size, 0, none⟩) 16 16, .map (some (w.heap.size + 1))] 104)
      rwa [s2] at this
    · rw [heap_old _ _ _ (by rw [s2]; omega), heap_old _ _ _ (by rw [s1]; omega)]
      exact heap_alloc_new (w.drewN m) _
    · rw [rows0_at _ (by omega)]
      obtain h | h | h | h : r * 3 % 12 = 0 ∨ r * 3 % 12 = 3 ∨ r * 3 % 12 = 6 ∨ r * 3 % 12 = 9 := by omega
      all_goals rw [h]; rfl
    · rw [rows0_at _ (by omega)]
      obtain h | h | h | h : (r * 3 + 1) % 12 = 1 ∨ (r * 3 + 1) % 12 = 4 ∨ (r * 3 + 1) % 12 = 7 ∨ (r * 3 + 1) % 12 = 10 := by omega
      all_goals rw [h]; rfl
    · rw [rows0_at _ (by omega)]
      obtain h | h | h | h : (r * 3 + 2) % 12 = 2 ∨ (r * 3 + 2) % 12 = 5 ∨ (r * 3 + 2) % 12 = 8 ∨ (r * 3 + 2) % 12 = 11 := by omega
      all_goals rw [h]; rfl
    · have hm := Mp.made (R := RP) (z := .pointer none) (zd := .nil) rfl ((w.drewN m).alloc (.cells rows0 109))
      rw [s1] at hm
      have e : (fun _ => Value.pointer none : Int → Value) = mpv (fun _ => []) (fun _ => 0) := by
        funext k
        unfold mpv
        rw [inQ_no (fun r hr h => by simp at h)]; rfl
      rw [e] at hm
      exact hm.below (below_alloc (Below.refl _ _) _)
  generalize rows0 = R0 at *
  go_enter Try.func19, Try.ntmps19
  go_wp2_with fail
  with_reducible refine Calls.mono cc ?_
  rintro e w1 ⟨rfl, m, rfl⟩
  clear cc
  go_wp2_with fail
  go_ret
  obtain ⟨h1, h2⟩ := hend.out m
  exact ⟨_, _, _, rfl, h1, ⟨by omega, Nat.le_refl _, by omega⟩, h2⟩
def delQ (Q : Rows) (x : Int) : Rows := fun s => (Q s).erase x
theorem erase_mid {P S : List Int} {x : Int} (h : (P ++ x :: S).Nodup) : (P ++ x :: S).erase x = P ++ S := by
  have hx : x ∉ P := fun hm => (List.nodup_append.1 h).2.2 x hm x (by simp) rfl
  rw [List.erase_append_right _ hx, List.erase_cons_head]
theorem delQ_some (h : IsC w p R z n Q sp) (hr : r < 64) (e : Q r = P ++ x :: S) : upd Q r (P ++ S) = delQ Q x := by
  funext s
  unfold delQ
  by_cases hs : s = r
  · subst hs
    rw [upd_same, e]
    have := h.rows.nd s hr
    rw [e] at this
    exact (erase_mid this).symm
  · rw [upd_ne _ _ hs]
    by_cases hs2 : s < 64
    · exact (List.erase_of_not_mem (fun hm => hs (h.rows.one s r x hs2 hr hm (by rw [e]; simp)))).symm
    · rw [h.out s (by omega)]; rfl
theorem delQ_none (h : IsC w p R z n Q sp) (hno : ∀ r, r < 64 → x ∉ Q r) : delQ Q x = Q := by
  funext s
  unfold delQ
  by_cases hs2 : s < 64
  · exact List.erase_of_not_mem (hno s hs2)
  · rw [h.out s (by omega)]; rfl
theorem delQ_no (h : IsRows w R Q sp) {s : Nat} (hs : s < 64) : x ∉ delQ Q x s := fun hm => by
  have := (h.nd s hs).mem_erase_iff.1 hm
  exact this.1 rfl
/-- The call answers v, and the rows are Q' now. -/
def Makes (v : Value) (w : World) (p R z n : Nat) (Q : Rows) (sp : Int → Nat) (n' : Nat) (Q' : Rows) (e : Ending) (w' : World) : Prop :=
  ∃ sp', e = .returned v ∧ Wrote (CH p R z Q sp) w (CH p R z Q' sp') w' ∧ IsC w' p R z n' Q' sp'
theorem del_any (h : IsC w p R z n Q sp) (hn : n ≤ 1000000) (hx : (Lit.int .i64 x).wf = true) : Calls Try.prog 22 #[.pointer (some ⟨p, 0, none⟩), .int .i64 x] w (Makes (.bool (inQ Q x)) w p R z n Q sp n (delQ Q x)) := by
  by_cases hi : inQ Q x = true
  · obtain ⟨r, hr, hm⟩ := inQ_at hi
    obtain ⟨P, S, e⟩ := h.rows.at_ hr hm
    rw [hi]
    refine (del_some h hn hr e).mono fun e1 w1 ⟨he, hw, hc, _⟩ => ⟨sp, he, ?_, ?_⟩
    · rw [delQ_some h hr e] at hw; exact hw
    · rw [delQ_some h hr e] at hc; exact hc
  · have hi2 : inQ Q x = false := by simpa using hi
    have hno : ∀ r, r < 64 → x ∉ Q r := fun r hr hm => hi (inQ_yes hr hm)
    rw [hi2]
    refine (del_none h hx hno).mono fun e1 w1 ⟨he, hw⟩ => ⟨sp, he, ?_, ?_⟩
    · rw [delQ_none h hno, ← hw]; exact Wrote.refl _ _
    · rw [delQ_none h hno, ← hw]; exact h
theorem mpv_put (hr : r < 64) (hno : ∀ s, s < 64 → x ∉ Q s) : up (mpv Q sp) x (.pointer (some ⟨N, 0, none⟩)) = mpv (upd Q r (Q r ++ [x])) (updI sp x N) := by
  funext k
  by_cases hk : k = x
  · subst hk
    rw [up_same]
    unfold mpv
    rw [inQ_yes (r := r) hr (by rw [upd_same]; simp), updI_same]; rfl
  · rw [up_ne _ _ hk]
    unfold mpv
    rw [updI_ne _ _ hk]
    have : inQ Q k = inQ (upd Q r (Q r ++ [x])) k := by
      by_cases hi : inQ Q k = true
      · obtain ⟨s, hs, hm⟩ := inQ_at hi
        rw [hi, inQ_yes hs]
        by_cases hsr : s = r
        · subst hsr; rw [upd_same]; simp [hm]
        · rw [upd_ne _ _ hsr]; exact hm
      · have hi2 : inQ Q k = false := by simpa using hi
        rw [hi2, inQ_no (fun s hs hm => hi (inQ_yes hs ?_))]
        by_cases hsr : s = r
        · subst hsr; rw [upd_same] at hm
          rcases List.mem_append.1 hm with h | h
          · exact h
          · exact absurd (by simpa using h) hk
        · rwa [upd_ne _ _ hsr] at hm
    rw [this]
/-- Behind the row's own put, the map is told. -/
theorem put_end (h : IsC w p R z n Q sp) (hr : r < 64) (hno : ∀ s, s < 64 → x ∉ Q s) (hx : (Lit.int .i64 x).wf = true) {w5 w6 : World} (hN : w.heap.size ≤ N) (hw : Wrote (RH R Q sp) w (RH R (upd Q r (Q r ++ [x])) (updI sp x N)) w5) (hrow : IsRows w5 R (upd Q r (Q r ++ [x])) (updI sp x N)) (hm : IMap RP (.pointer none) w6 z (n + 1) (up (mpv Q sp) x (.pointer (some ⟨N, 0, none⟩)))) (hw6 : Wrote (fun k => k = z) w5 (fun k => k = z) w6) :
    Wrote (CH p R z Q sp) w (CH p R z (upd Q r (Q r ++ [x])) (updI sp x N)) w6 ∧ IsC w6 p R z (n + 1) (upd Q r (Q r ++ [x])) (updI sp x N) := by
  have hp1 : ¬ RH R Q sp p := off_rh h.pR h.sp_p
  have hz1 : ¬ RH R Q sp z := off_rh h.Rz.symm h.sp_z
  have hzlt := h.map.lt
  have hplt := h.plt
  have hsub := rh_put (R := R) (Q := Q) (sp := sp) (N := N) hr hno
  have hin : ∀ s y, s < 64 → y ∈ upd Q r (Q r ++ [x]) s → y = x ∨ y ∈ Q s := fun s y hs hy => by
    by_cases hsr : s = r
    · subst hsr; rw [upd_same] at hy
      rcases List.mem_append.1 hy with h | h
      · exact .inr h
      · exact .inl (by simpa using h)
    · rw [upd_ne _ _ hsr] at hy; exact .inr hy
  refine ⟨⟨hw6.os.trans hw.os, hw6.tape.trans hw.tape, hw6.output.trans hw.output, Nat.le_trans hw.size hw6.size, fun k hk ho => ?_, fun k hk => ?_⟩, ⟨?_, ?_, ?_, h.pR, h.pz, h.Rz, ?_, ?_, ?_, ?_, ?_⟩⟩
  · exact (hw6.block k (Nat.lt_of_lt_of_le hk hw.size) (fun e => ho (.inr (.inl e)))).trans (hw.block k hk (fun e => ho (.inr (.inr e))))
  · rcases hk with e | e | e
    · exact .inl (.inl e)
    · exact .inl (.inr (.inl e))
    · exact (hsub k e).imp (fun h => .inr (.inr h)) (fun e => by omega)
  · exact (hw6.block p (Nat.lt_of_lt_of_le hplt hw.size) h.pz).trans ((hw.block p hplt hp1).trans h.head)
  · refine hrow.wrote hw6 (fun k hk e => ?_)
    have e : k = z := e
    subst e
    rcases hsub k hk with h1 | h1
    · exact hz1 h1
    · omega
  · rw [← mpv_put hr hno]; exact hm
  · intro s y hs hy
    by_cases e : y = x
    · subst e; rw [updI_same]; omega
    · rw [updI_ne _ _ e]; exact h.sp_p s y hs ((hin s y hs hy).resolve_left e)
  · intro s y hs hy
    by_cases e : y = x
    · subst e; rw [updI_same]; omega
    · rw [updI_ne _ _ e]; exact h.sp_z s y hs ((hin s y hs hy).resolve_left e)
  · intro s y hs hy
    by_cases e : y = x
    · subst e; exact hx
    · exact h.wf s y hs ((hin s y hs hy).resolve_left e)
  · intro s hs
    rw [upd_ne _ _ (by omega)]; exact h.out s hs
  · intro s
    by_cases hsr : s = r
    · subst hsr; rw [upd_same, List.length_append]; have := h.small s; simp; omega
    · rw [upd_ne _ _ hsr]; have := h.small s; omega
def putQ (Q : Rows) (r : Nat) (x : Int) : Rows := upd (delQ Q x) r (delQ Q x r ++ [x])
theorem Makes.then_ {v u : Value} {w1 : World} {Q1 Q2 : Rows} {n1 n2 : Nat} {sp1 : Int → Nat} {e : Ending} {w2 : World} (hw : Wrote (CH p R z Q sp) w (CH p R z Q1 sp1) w1) (h : Makes v w1 p R z n1 Q1 sp1 n2 Q2 e w2) : Makes v w p R z n Q sp n2 Q2 e w2 := by
  obtain ⟨sp2, he, hw2, hc⟩ := h
  exact ⟨sp2, he, hw.trans hw2, hc⟩
end Ce
end Go.Proofs.Ytejijddhmckgiaa
