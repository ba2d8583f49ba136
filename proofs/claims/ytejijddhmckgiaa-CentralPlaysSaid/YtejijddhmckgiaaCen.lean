/- Spans in common, as they lie in memory: a struct of rows and of a map from ids to their spots; what Del answers and makes. -/
import Derived.Test.YtejijddhmckgiaaCDel
import Derived.Test.YtejijddhmckgiaaClass
namespace Go.Proofs.Ytejijddhmckgiaa
open Go.RowKit Go.Lib Fx Ho Rw Mp
set_option linter.unusedVariables false
namespace Ce
/-- Pointers to whole blocks, told apart by the block. -/
def RP : Rdr := fun v => match v with
  | .pointer none => some (.nil, [])
  | .pointer (some ⟨b, 0, none⟩) => some (.lit (.int .i64 b), [])
  | _ => none
theorem rp_inv {v : Value} {d : DataW Unit} {ps : List MemPlace} (h : RP v = some (d, ps)) : ps = [] ∧ ((v = .pointer none ∧ d = .nil) ∨ ∃ b : Nat, v = .pointer (some ⟨b, 0, none⟩) ∧ d = .lit (.int .i64 b)) := by
  unfold RP at h
  split at h
  · cases h; exact ⟨rfl, .inl ⟨rfl, rfl⟩⟩
  · rename_i b; cases h; exact ⟨rfl, .inr ⟨b, rfl, rfl⟩⟩
  · cases h
theorem fairP : Mp.Fair RP := ⟨fun h => (rp_inv h).1, fun {u v d} h1 h2 => by
  rcases (rp_inv h1).2 with ⟨rfl, rfl⟩ | ⟨b, rfl, rfl⟩ <;> rcases (rp_inv h2).2 with ⟨rfl, e⟩ | ⟨c, rfl, e⟩
  · rfl
  · cases e
  · cases e
  · injection e with e
    injection e with _ e
    have : b = c := by exact_mod_cast e
    rw [this]⟩
set_option maxRecDepth 100000 in
theorem zeroP (w : World) : (zeroValue 105).run Try.prog w = .ok (.pointer none) w := by rfl
def inQ (Q : Rows) (k : Int) : Bool := (List.range 64).any fun r => decide (k ∈ Q r)
theorem inQ_yes {Q : Rows} {k : Int} {r : Nat} (hr : r < 64) (h : k ∈ Q r) : inQ Q k = true := List.any_eq_true.2 ⟨r, List.mem_range.2 hr, decide_eq_true h⟩
theorem inQ_no {Q : Rows} {k : Int} (h : ∀ r, r < 64 → k ∉ Q r) : inQ Q k = false := by
  rw [Bool.eq_false_iff]
  intro e
  obtain ⟨r, h1, h2⟩ := List.any_eq_true.1 e
  exact h r (List.mem_range.1 h1) (of_decide_eq_true h2)
theorem inQ_at {Q : Rows} {k : Int} (h : inQ Q k = true) : ∃ r, r < 64 ∧ k ∈ Q r := by
  obtain ⟨r, h1, h2⟩ := List.any_eq_true.1 h
  exact ⟨r, List.mem_range.1 h1, of_decide_eq_true h2⟩
def mpv (Q : Rows) (sp : Int → Nat) : Int → Value := fun k => if inQ Q k = true then .pointer (some ⟨sp k, 0, none⟩) else .pointer none
variable {w w' W : World} {p R z n r N o : Nat} {Q : Rows} {sp : Int → Nat} {H H' : Home} {x y : Int} {P S : List Int}
structure IsC (w : World) (p R z n : Nat) (Q : Rows) (sp : Int → Nat) : Prop where
  head : w.heap[p]? = some (.cells #[.slice (some ⟨R, 0, none⟩) 16 16, .map (some z)] 104 (0, 0))
  rows : IsRows w R Q sp
  map : IMap RP (.pointer none) w z n (mpv Q sp)
  pR : p ≠ R
  pz : p ≠ z
  Rz : R ≠ z
  sp_p : ∀ r x, r < 64 → x ∈ Q r → sp x ≠ p
  sp_z : ∀ r x, r < 64 → x ∈ Q r → sp x ≠ z
  wf : ∀ r x, r < 64 → x ∈ Q r → (Lit.int .i64 x).wf = true
  out : ∀ r, 64 ≤ r → Q r = []
  small : ∀ r, (Q r).length ≤ n
/-- The blocks of it. -/
def CH (p R z : Nat) (Q : Rows) (sp : Int → Nat) : Home := fun k => k = p ∨ k = z ∨ RH R Q sp k
theorem off_rh (h1 : p ≠ R) (h2 : ∀ r x, r < 64 → x ∈ Q r → sp x ≠ p) : ¬ RH R Q sp p := fun h => by
  rcases h with e | ⟨r, x, a, b, e⟩
  · exact h1 e
  · exact h2 r x a b e
namespace IsC
theorem c0 (h : IsC w p R z n Q sp) : w.cell? ⟨p, 0, none⟩ = some (.slice (some ⟨R, 0, none⟩) 16 16) := cell_of h.head rfl
theorem c1 (h : IsC w p R z n Q sp) : w.cell? ⟨p, 1, none⟩ = some (.map (some z)) := cell_of h.head rfl
theorem plt (h : IsC w p R z n Q sp) : p < w.heap.size := block_lt h.head
theorem lt (h : IsC w p R z n Q sp) {k : Nat} (hk : CH p R z Q sp k) : k < w.heap.size := by
  rcases hk with rfl | rfl | hk
  · exact h.plt
  · exact h.map.lt
  · exact h.rows.lt hk
theorem wrote (h : IsC w p R z n Q sp) (ht : Wrote H w H' w') (ho : Ho.Off (CH p R z Q sp) H) : IsC w' p R z n Q sp :=
  ⟨(ht.block p h.plt (fun e => ho p (.inl rfl) e)).trans h.head, h.rows.wrote ht (fun k hk => ho k (.inr (.inr hk))), h.map.wrote ht (fun e => ho z (.inr (.inl rfl)) e), h.pR, h.pz, h.Rz, h.sp_p, h.sp_z, h.wf, h.out, h.small⟩
theorem below (h : IsC w p R z n Q sp) (hb : Below w.heap.size w w') : IsC w' p R z n Q sp := h.wrote (H := fun _ => False) (Wrote.of_below hb) (fun _ _ h => h)
theorem look (h : IsC w p R z n Q sp) (hx : (Lit.int .i64 x).wf = true) : (Instr.lookup 102 (.map (some z)) (.int .i64 x) false).run Try.prog w = .ok (mpv Q sp x) w := h.map.look fairP Try.underlying102 (zeroP w) hx
end IsC
theorem wpList_drop {ops : Array Oper} {rest : List Oper} {o : Oper} {a : Act} {K : Exit → Act → World → Prop} {R : Rdr} {zv : Value} {b n : Nat} {m : Int → Value} (hg : o.guard = none) (mm x : Operand) (t : TypeId) (ho : o.op = .call { callee := .builtin .delete, args := #[mm, x], argTypes := #[t, 3] }) (hR : Mp.Fair R) {e : TypeId} (ht : Try.prog.underlying t = some (.map 3 e))
    (h : IMap R zv w b n m) (hm : a.eval mm = .map (some b)) {k : Int} (hk : (Lit.int .i64 k).wf = true) (hx : a.eval x = .int .i64 k)
    (hK : ∀ w', IMap R zv w' b n (up m k zv) → Wrote (fun k => k = b) w (fun k => k = b) w' → wpList Try.prog ops K rest (a.put o.dst (.tuple #[])) w') : wpList Try.prog ops K (o :: rest) a w := by
  refine wpList_plain hg fun K' hK' => ?_
  obtain ⟨w', hrun, r1, r2⟩ := h.drop hR ht hk o.type
  unfold Oper.wp
  simp [execOp, ho, resolve, invoke, builtin, hm, hx, hrun, Result.andThen]
  exact hK' _ _ (hK w' r1 r2)
theorem upd_sub (e : Q r = P ++ x :: S) {s : Nat} {y : Int} (h : y ∈ upd Q r (P ++ S) s) : y ∈ Q s := by
  by_cases hs : s = r
  · subst hs; rw [upd_same] at h; rw [e]; rcases List.mem_append.1 h with h | h <;> simp [h]
  · rwa [upd_ne _ _ hs] at h
/-- The map of what is left. -/
theorem mpv_del (h : IsRows w R Q sp) (hr : r < 64) (e : Q r = P ++ x :: S) : up (mpv Q sp) x (.pointer none) = mpv (upd Q r (P ++ S)) sp := by
  funext k
  by_cases hk : k = x
  · subst hk
    rw [up_same]
    unfold mpv
    rw [inQ_no (fun s hs hm => ?_)]
    · rfl
    · have h1 := upd_sub e hm
      obtain rfl := h.one s r k hs hr h1 (by rw [e]; simp)
      rw [upd_same] at hm
      have hnd := h.nd s hs
      rw [e] at hnd
      rcases List.mem_append.1 hm with h2 | h2
      · exact (List.nodup_append.1 hnd).2.2 k h2 k (by simp) rfl
      · exact (List.nodup_cons.1 (List.nodup_append.1 hnd).2.1).1 h2
  · rw [up_ne _ _ hk]
    unfold mpv
    have : inQ Q k = inQ (upd Q r (P ++ S)) k := by
      by_cases hi : inQ Q k = true
      · obtain ⟨s, hs, hm⟩ := inQ_at hi
        rw [hi, inQ_yes hs]
        by_cases hsr : s = r
        · subst hsr; rw [upd_same]; rw [e] at hm
          rcases List.mem_append.1 hm with h2 | h2
          · simp [h2]
          · rcases List.mem_cons.1 h2 with h2 | h2
            · exact absurd h2 hk
            · simp [h2]
        · rw [upd_ne _ _ hsr]; exact hm
      · have hi2 : inQ Q k = false := by simpa using hi
        rw [hi2, inQ_no (fun s hs hm => hi (inQ_yes hs (upd_sub e hm)))]
    rw [this]
/-- The call answers r and makes the state Q'. -/
def Does (v : Value) (w : World) (p R z n : Nat) (Q : Rows) (sp : Int → Nat) (n' : Nat) (Q' : Rows) (e : Ending) (w' : World) : Prop :=
  ∃ sp', e = .returned v ∧ Wrote (CH p R z Q sp) w (CH p R z Q' sp') w' ∧ IsC w' p R z n' Q' sp'
set_option maxRecDepth 100000 in
theorem del_nil (x : Int) (w : World) : Calls Try.prog 22 #[.pointer none, .int .i64 x] w (Still (.bool false) w) := by
  go_enter Try.func22, Try.ntmps22
  go_wp2_with fail
  go_ret
  exact ⟨rfl, rfl⟩
set_option maxRecDepth 100000 in
theorem del_none (h : IsC w p R z n Q sp) (hx : (Lit.int .i64 x).wf = true) (hno : ∀ r, r < 64 → x ∉ Q r) : Calls Try.prog 22 #[.pointer (some ⟨p, 0, none⟩), .int .i64 x] w (Still (.bool false) w) := by
  have c1 := h.c1
  have hl := h.look hx
  unfold mpv at hl
  rw [inQ_no hno] at hl
  replace hl : (Instr.lookup 102 (.map (some z)) (.int .i64 x) false).run Try.prog w = .ok (.pointer none) w := hl
  clear h hno
  go_enter Try.func22, Try.ntmps22
  go_wp2_with fail
  go_ret
  exact ⟨rfl, rfl⟩
def Dels (w : World) (p R z n : Nat) (Q : Rows) (sp : Int → Nat) (x : Int) (Q' : Rows) (e : Ending) (w' : World) : Prop :=
  e = .returned (.bool true) ∧ Wrote (CH p R z Q sp) w (CH p R z Q' sp) w' ∧ IsC w' p R z n Q' sp ∧ w'.heap[sp x]? = w.heap[sp x]?
set_option maxRecDepth 100000 in
set_option maxHeartbeats 1000000 in
theorem del_some (h : IsC w p R z n Q sp) (hn : n ≤ 1000000) (hr : r < 64) (e : Q r = P ++ x :: S) : Calls Try.prog 22 #[.pointer (some ⟨p, 0, none⟩), .int .i64 x] w (Dels w p R z n Q sp x (upd Q r (P ++ S))) := by
  have hxm : x ∈ Q r := by rw [e]; simp
  have c1 := h.c1
  have hx := h.wf r x hr hxm
  have hl := h.look hx
  have hxz := h.sp_z r x hr hxm
  unfold mpv at hl
  rw [inQ_yes hr hxm] at hl
  replace hl : (Instr.lookup 102 (.map (some z)) (.int .i64 x) false).run Try.prog w = .ok (.pointer (some ⟨sp x, 0, none⟩)) w := hl
  obtain ⟨_, s1, _, _⟩ := h.rows.spotC hr e
  have cr := rdel_any (o := r * 3) h.rows hr rfl e (Nat.le_trans (h.small r) hn)
  have hfin : Hid (∀ w1, DelRow2 w R r Q sp P S x (.returned (.tuple #[])) w1 → w1.cell? ⟨p, 1, none⟩ = some (.map (some z)) ∧ Hid (IMap RP (.pointer none) w1 z n (mpv Q sp)) ∧ Hid (∀ w2, IMap RP (.pointer none) w2 z n (up (mpv Q sp) x (.pointer none)) → Wrote (fun k => k = z) w1 (fun k => k = z) w2 → Dels w p R z n Q sp x (upd Q r (P ++ S)) (.returned (.bool true)) w2)) := Lib.hid fun w1 hd => by
    obtain ⟨_, hw, hrw, hxs⟩ := hd
    have hp1 : ¬ RH R Q sp p := off_rh h.pR h.sp_p
    have hz1 : ¬ RH R Q sp z := off_rh h.Rz.symm h.sp_z
    refine ⟨hw.cell h.c1 hp1, Lib.hid (h.map.wrote hw hz1), Lib.hid fun w2 hm2 hw2 => ?_⟩
    have hx2 : sp x < w1.heap.size := Nat.lt_of_lt_of_le (h.rows.lts hr hxm) hw.size
    have hsub : ∀ k, RH R (upd Q r (P ++ S)) sp k → RH R Q sp k := rh_del hr e
    refine ⟨rfl, ⟨hw2.os.trans hw.os, hw2.tape.trans hw.tape, hw2.output.trans hw.output, Nat.le_trans hw.size hw2.size, fun k hk ho => ?_, fun k hk => .inl (hk.imp id (fun h => h.imp id (hsub k)))⟩, ⟨?_, ?_, ?_, h.pR, h.pz, h.Rz, ?_, ?_, ?_, ?_, ?_⟩, ?_⟩
    · exact (hw2.block k (Nat.lt_of_lt_of_le hk hw.size) (fun e => ho (.inr (.inl e)))).trans (hw.block k hk (fun e => ho (.inr (.inr e))))
    · exact (hw2.block p (Nat.lt_of_lt_of_le h.plt hw.size) h.pz).trans ((hw.block p h.plt hp1).trans h.head)
    · exact hrw.wrote hw2 (fun k hk e => hz1 (e ▸ hsub k hk))
    · rw [← mpv_del h.rows hr e]; exact hm2
    · exact fun s y hs hy => h.sp_p s y hs (upd_sub e hy)
    · exact fun s y hs hy => h.sp_z s y hs (upd_sub e hy)
    · exact fun s y hs hy => h.wf s y hs (upd_sub e hy)
    · intro s hs
      rw [upd_ne _ _ (by omega)]; exact h.out s hs
    · intro s
      by_cases hs : s = r
      · subst hs; rw [upd_same]; have := h.small s; rw [e] at this; simp at this ⊢; omega
      · rw [upd_ne _ _ hs]; exact h.small s
    · exact (hw2.block _ hx2 hxz).trans hxs
  clear h e hxm hr hxz
  generalize upd Q r (P ++ S) = Q' at *
  generalize hb : sp x = b at *
  go_enter Try.func22, Try.ntmps22
  go_wp2_with fail
  with_reducible refine Calls.mono cr ?_
  rintro e w1 hd
  obtain rfl := hd.1
  obtain ⟨d1, hm, hend⟩ := hfin.out w1 hd
  clear hd cr hfin hl s1 c1
  go_wp2_with (refine wpList_drop rfl (.tmp 25) (.tmp 26) 102 rfl fairP Try.underlying102 hm.out rfl hx rfl ?_; intro w2 g1 g2; have hgo := Lib.hid (hend.out w2 g1 g2); clear g1 g2 hm hend)

  go_ret
  exact hgo.out
end Ce
end Go.Proofs.Ytejijddhmckgiaa
