/- slices.IndexFunc and slices.DeleteFunc at numbers, for whatever function value: it may make memory, and reads none of the row. -/
import Derived.Test.YtneibhcigbfigaaVwRis
import Derived.Lib.SliceRun
namespace Go.Proofs.Ytneibhcigbfigaa
open Go.RowKit Go.Lib Fx Ho Gr Go.Sort
set_option linter.unusedVariables false
namespace Vw
variable {B w w' W : World} {p mb n i lo F : Nat} {v lv : Value} {all l zs ts : List Int} {x y : Int} {H : Home} {C : Array Value} {P : Int → Bool} {I : World → Prop}
/-- A function value that answers P of these numbers, where I holds; I stays where memory is made, or block b is written. -/
structure Pd (F : Nat) (C : Array Value) (P : Int → Bool) (zs : List Int) (b : Option Nat) (I : World → Prop) : Prop where
  enter : ∀ (args : Array Value) (W : World), Sem.run Try.prog (callFunc F args) W = .ok (.enter F args) W
  call : ∀ x ∈ zs, ∀ W, I W → Calls Try.prog F (#[.int .i64 x] ++ C) W fun e w' => e = .returned (.bool (P x)) ∧ Below W.heap.size W w'
  stay : ∀ W W', I W → Wrote (fun k => b = some k) W (fun k => b = some k) W' → I W'
/-- Where the first one stands; -1, if there is none. -/
def Fst (P : Int → Bool) (zs : List Int) (r : Int) : Prop := (r = -1 ∧ ∀ x ∈ zs, P x = false) ∨ ∃ k : Nat, k < zs.length ∧ r = (k : Int) ∧ P (zs.getD k 0) = true ∧ ∀ x ∈ zs.take k, P x = false
theorem take_mem {k : Nat} (hk : k < zs.length) : (∀ x ∈ zs.take (k + 1), P x = false) ↔ (∀ x ∈ zs.take k, P x = false) ∧ P (zs.getD k 0) = false := by
  have e2 : zs.take (k + 1) = zs.take k ++ [zs.getD k 0] := by
    rw [List.take_add_one, List.getElem?_eq_getElem hk, List.getD_eq_getElem?_getD, List.getElem?_eq_getElem hk]; rfl
  rw [e2]
  constructor
  · exact fun h => ⟨fun x hx => h x (List.mem_append_left _ hx), h _ (by simp)⟩
  · rintro ⟨h1, h2⟩ x hx
    rcases List.mem_append.1 hx with e | e
    · exact h1 x e
    · rw [List.mem_singleton.1 e]; exact h2
set_option maxRecDepth 100000 in
set_option maxHeartbeats 2000000 in
theorem idx_any {S : Home} (hp : Pd F C P zs v.ownBlock I) (hI : I w) (hl : Ints w S v zs) : Calls Try.prog 102 #[v, .func (.func F) #[] C] w fun e w' => ∃ r, e = .returned (.int .i64 r) ∧ Fst P zs r ∧ Below w.heap.size w w' := by
  have hent := hp.enter
  have hst : Hid (∀ W, Below w.heap.size w W → I W) := Lib.hid fun W hb => hp.stay w W hI (Wrote.of_below hb)
  obtain ⟨sp, cap, rfl, hmx, hcell⟩ := hl
  obtain ⟨m, hm0⟩ : ∃ m, zs.length = m := ⟨_, rfl⟩
  have hat : Hid (∀ i, i < m → ∃ b off, sp = some ⟨b, off, none⟩ ∧ w.cell? ⟨b, off + i, none⟩ = some (.int .i64 (zs.getD i 0))) := Lib.hid fun i hi => by
    obtain ⟨b, off, e, _, _, hc⟩ := hcell i (by omega)
    exact ⟨b, off, e, hc⟩
  have hcall : Hid (∀ i, i < m → ∀ W, I W → Calls Try.prog F (#[.int .i64 (zs.getD i 0)] ++ C) W fun e w' => e = .returned (.bool (P (zs.getD i 0))) ∧ Below W.heap.size W w') := Lib.hid fun i hi W hW => hp.call _ (getD_mem 0 (by omega)) W hW
  have hnx : Hid (∀ i, i < m → ((∀ x ∈ zs.take (i + 1), P x = false) ↔ (∀ x ∈ zs.take i, P x = false) ∧ P (zs.getD i 0) = false)) := Lib.hid fun i hi => take_mem (by omega)
  have hfin : Hid ((∀ x ∈ zs.take m, P x = false) → Fst P zs (-1)) := Lib.hid fun h => .inl ⟨rfl, by rw [List.take_of_length_le (by omega)] at h; exact h⟩
  have hfin2 : Hid (∀ i, i < m → P (zs.getD i 0) = true → (∀ x ∈ zs.take i, P x = false) → Fst P zs (i : Int)) := Lib.hid fun i hi h1 h2 => .inr ⟨i, by omega, rfl, h1, h2⟩
  rw [hm0] at hmx ⊢
  clear hp hI hcell hm0
  go_enter Try.func102, Try.ntmps102
  go_wp2_with fail
  go_loopw [8] (fun u wr => ∃ i : Nat, u = .int .i64 i ∧ i ≤ m ∧ Hid (∀ x ∈ zs.take i, P x = false) ∧ Hid (Below w.heap.size w wr)) (fun u _ => (m - (RowKit.intOf u).toNat))
  case atStart => exact ⟨0, rfl, by omega, Lib.hid (fun x hx => by simp at hx), Lib.hid (Below.refl _ _)⟩
  case round =>
    obtain ⟨i, rfl, hi, hno, hbw⟩ := hrel
    have i0 : (0 : Int) ≤ (i : Int) := by omega
    by_cases hlt : i < m
    · obtain ⟨b, off, rfl, cz⟩ := hat.out i hlt
      have cz := cell_then hbw.out cz
      have i2 : (i : Int) < (m : Int) := by omega
      have hc := hcall.out i hlt wr (hst.out wr hbw.out)
      have hn1 := Lib.hid (hnx.out i hlt)
      have hn2 := Lib.hid (hfin2.out i hlt)
      obtain ⟨x, hx⟩ : ∃ x, zs.getD i 0 = x := ⟨_, rfl⟩
      rw [hx] at cz hc hn1 hn2
      clear hx
      cases hP : P x with
      | false =>
        rw [hP] at hc
        go_wp2_with fail
        refine Calls.mono hc ?_
        rintro e w6 ⟨rfl, hb6⟩
        have hno6 := Lib.hid (hn1.out.2 ⟨hno.out, hP⟩)
        have hb7 := Lib.hid (hbw.out.trans (hb6.mono hbw.out.size))
        clear hc hno hbw hb6
        go_wp2_with fail
        go_roundw
        case rel => exact ⟨i + 1, by go_num, by omega, hno6, hb7⟩
        case measure => simp [RowKit.intOf]; omega
      | true =>
        rw [hP] at hc
        go_wp2_with fail
        refine Calls.mono hc ?_
        rintro e w6 ⟨rfl, hb6⟩
        have hf := Lib.hid (hn2.out hP hno.out)
        have hb7 := Lib.hid (hbw.out.trans (hb6.mono hbw.out.size))
        clear hc hno hbw hb6
        go_wp2_with fail
        go_ret
        exact ⟨_, rfl, hf.out, hb7.out⟩
    · obtain rfl : i = m := by omega
      have hf := Lib.hid (hfin.out hno.out)
      clear hno
      go_wp2_with fail
      go_ret
      exact ⟨_, rfl, hf.out, hbw.out⟩
/-- The row while it is gone through: what stays of the first j, then as it was. -/
def Dl (P : Int → Bool) (zs : List Int) (j : Nat) : List Int := (zs.take j).filter (fun x => !P x)
theorem dl_le (j : Nat) (hj : j ≤ zs.length) : (Dl P zs j).length ≤ j := by
  have := List.length_filter_le (fun x => !P x) (zs.take j)
  rw [List.length_take] at this
  unfold Dl; omega
theorem dl_next {j : Nat} (hj : j < zs.length) : Dl P zs (j + 1) = if P (zs.getD j 0) = true then Dl P zs j else Dl P zs j ++ [zs.getD j 0] := by
  have e2 : zs.take (j + 1) = zs.take j ++ [zs.getD j 0] := by
    rw [List.take_add_one, List.getElem?_eq_getElem hj, List.getD_eq_getElem?_getD, List.getElem?_eq_getElem hj]; rfl
  unfold Dl
  rw [e2, List.filter_append]
  cases hP : P (zs.getD j 0) <;> simp [List.filter_cons]
  all_goals (try rw [List.getD_eq_getElem?_getD] at hP); simp [hP]
/-- Cells of a row. -/
def Cl (w : World) (b off : Nat) (D : List Int) : Prop := ∀ t, t < D.length → w.cell? ⟨b, off + t, none⟩ = some (.int .i64 (D.getD t 0)) ∧ w.frozen? ⟨b, off + t, none⟩ = false
theorem Cl.set {b off k : Nat} {D : List Int} (h : Cl w b off D) (hk : k < D.length) (x : Int) : Cl (w.setCell ⟨b, off + k, none⟩ (.int .i64 x)) b off (D.set k x) := fun t ht => by
  rw [List.length_set] at ht
  obtain ⟨e1, e2⟩ := h t ht
  rw [World.frozen?_setCell]
  refine ⟨?_, e2⟩
  by_cases e : t = k
  · subst e
    rw [World.cell?_setCell_same _ _ _ e1]
    simp [List.getD_eq_getElem?_getD, hk]
  · rw [World.cell?_setCell_other _ _ _ _ (show (⟨b, off + k, none⟩ : Addr) ≠ ⟨b, off + t, none⟩ from fun h => by have := congrArg Addr.off h; simp at this; omega), e1]
    simp [List.getD_eq_getElem?_getD, List.getElem?_set_ne (fun h => e h.symm)]
theorem Cl.wrote {b off : Nat} {D : List Int} {H H' : Home} (h : Cl w b off D) (hw : Wrote H w H' w') (hb : b < w.heap.size) (hn : ¬ H b) : Cl w' b off D := fun t ht => by
  obtain ⟨e1, e2⟩ := h t ht
  exact ⟨by rw [World.cell?_of_block (a := ⟨b, off + t, none⟩) (hw.block b hb hn)]; exact e1, by rw [World.frozen?_of_block (a := ⟨b, off + t, none⟩) (hw.block b hb hn)]; exact e2⟩
theorem cl_holds {b off : Nat} {D : List Int} : Holds (Value.int .i64) w b off D.toArray ↔ Cl w b off D := by
  constructor
  · exact fun h t ht => ⟨hold_get h ht, (h t (by simpa using ht)).2⟩
  · intro h t ht
    have ht' : t < D.length := by simpa using ht
    obtain ⟨e1, e2⟩ := h t ht'
    refine ⟨?_, e2⟩
    rw [e1]
    simp [List.getD_eq_getElem?_getD, ht']
theorem Cl.head {b off : Nat} {D E : List Int} (h : Cl w b off (D ++ E)) : Cl w b off D := fun t ht => by
  have := h t (by rw [List.length_append]; omega)
  rw [List.getD_eq_getElem?_getD, List.getElem?_append_left ht, ← List.getD_eq_getElem?_getD] at this
  exact this
/-- What is cleared behind it. -/
theorem Cl.clear {b off k : Nat} {D : List Int} (h : Cl w b off D) (hk : k ≤ D.length) (m : Nat) : Cl (w.setCells b (off + k) (List.replicate m (.int .i64 0))) b off (D.take k) := fun t ht => by
  rw [List.length_take] at ht
  obtain ⟨e1, e2⟩ := h t (by omega)
  rw [World.cell?_setCells_out, World.frozen?_setCells]
  · refine ⟨?_, e2⟩
    rw [e1, List.getD_eq_getElem?_getD, List.getD_eq_getElem?_getD, List.getElem?_take_of_lt (by omega)]
  · exact fun _ _ => .inl (by show off + t < off + k; omega)
theorem wrote_cells {b : Nat} (vs : List Value) (o : Nat) (w : World) : Wrote (fun k => k = b) w (fun k => k = b) (w.setCells b o vs) :=
  ⟨World.os_setCells w b o vs, tape_setCells b vs o w, World.output_setCells w b o vs, by
    have : ∀ (vs : List Value) (o : Nat) (w : World), (w.setCells b o vs).heap.size = w.heap.size := fun vs => by
      induction vs with
      | nil => exact fun _ _ => rfl
      | cons v r ih => exact fun o w => by rw [World.setCells, ih]; simp
    rw [this]; exact Nat.le_refl _, fun k hk hn => World.heap_setCells_other w b o vs hk hn, fun k hk => .inl hk⟩
set_option maxRecDepth 100000 in
set_option maxHeartbeats 4000000 in
theorem del_any (hp : Pd F C P zs v.ownBlock I) (hI : I w) (h : Rw0 lo w v zs) : Calls Try.prog 68 #[v, .func (.func F) #[] C] w fun e w' => ∃ v', e = .returned v' ∧ Rw0 lo w' v' (zs.filter fun x => !P x) ∧ v'.ownBlock = v.ownBlock ∧ Wrote (fun k => v.ownBlock = some k) w (fun k => v.ownBlock = some k) w' := by
  have ci := idx_any hp hI h.ints
  have hent := hp.enter
  have hall : (∀ x ∈ zs, P x = false) → (zs.filter fun x => !P x) = zs := fun h => List.filter_eq_self.2 fun x hx => by rw [h x hx]; rfl
  rcases h with ⟨b, off, cap, rfl, h1, h2, h3, h4, h5⟩ | ⟨rfl, a, cap, rfl, h1⟩
  · have h5 := cl_holds.1 h5
    obtain ⟨m, hm0⟩ : ∃ m, zs.length = m := ⟨_, rfl⟩
    have hst : Hid (∀ W, Wrote (fun k => k = b) w (fun k => k = b) W → I W) := Lib.hid fun W hW => hp.stay w W hI ⟨hW.os, hW.tape, hW.output, hW.size, fun k hk hn => hW.block k hk (fun e => hn (by rw [e]; rfl)), fun k hk => .inl hk⟩
    have hcall : Hid (∀ i, i < m → ∀ W, I W → Calls Try.prog F (#[.int .i64 (zs.getD i 0)] ++ C) W fun e w' => e = .returned (.bool (P (zs.getD i 0))) ∧ Below W.heap.size W w') := Lib.hid fun i hi W hW => hp.call _ (getD_mem 0 (by omega)) W hW
    have hnx : Hid (∀ j, j < m → Dl P zs (j + 1) = if P (zs.getD j 0) = true then Dl P zs j else Dl P zs j ++ [zs.getD j 0]) := Lib.hid fun j hj => dl_next (by omega)
    have hle : Hid (∀ j, j ≤ m → (Dl P zs j).length ≤ j) := Lib.hid fun j hj => dl_le j (by omega)
    have hlen : Hid (∀ j, j ≤ m → (Dl P zs j ++ zs.drop (Dl P zs j).length).length = m) := Lib.hid fun j hj => by
      have := dl_le (P := P) j (zs := zs) (by omega)
      rw [List.length_append, List.length_drop]; omega
    have hfin : Hid (∀ W W', Wrote (fun k => k = b) w (fun k => k = b) W → Cl W' b off (Dl P zs m) → Wrote (fun k => k = b) W (fun k => k = b) W' → ∃ v', Ending.returned (.slice (some ⟨b, off, none⟩) (Dl P zs m).length cap) = .returned v' ∧ Rw0 lo W' v' (zs.filter fun x => !P x) ∧ v'.ownBlock = (Value.slice (some ⟨b, off, none⟩) m cap).ownBlock ∧ Wrote (fun k => (Value.slice (some ⟨b, off, none⟩) m cap).ownBlock = some k) w (fun k => (Value.slice (some ⟨b, off, none⟩) m cap).ownBlock = some k) W') := Lib.hid fun W W' e1 e2 e3 => by
      have e4 : Dl P zs m = zs.filter fun x => !P x := by unfold Dl; rw [List.take_of_length_le (by omega)]
      have e5 := e1.trans e3
      have e6 := dl_le (P := P) m (zs := zs) (by omega)
      rw [e4] at e2 e6 ⊢
      exact ⟨_, rfl, .inl ⟨b, off, cap, rfl, h1, Nat.lt_of_lt_of_le h2 e5.size, by omega, by omega, cl_holds.2 e2⟩, rfl, ⟨e5.os, e5.tape, e5.output, e5.size, fun k hk hn => e5.block k hk (fun e => hn (by rw [e]; rfl)), fun k hk => .inl hk⟩⟩
    have hfin0 : Hid (∀ W, (∀ x ∈ zs, P x = false) → Below w.heap.size w W → ∃ v', Ending.returned (.slice (some ⟨b, off, none⟩) m cap) = .returned v' ∧ Rw0 lo W v' (zs.filter fun x => !P x) ∧ v'.ownBlock = (Value.slice (some ⟨b, off, none⟩) m cap).ownBlock ∧ Wrote (fun k => (Value.slice (some ⟨b, off, none⟩) m cap).ownBlock = some k) w (fun k => (Value.slice (some ⟨b, off, none⟩) m cap).ownBlock = some k) W) := Lib.hid fun W e1 e2 => by
      have e5 : Wrote (fun k => k = b) w (fun k => k = b) W := Wrote.of_below e2
      refine ⟨_, rfl, .inl ⟨b, off, cap, by rw [hall e1, hm0], h1, Nat.lt_of_lt_of_le h2 e5.size, by rw [hall e1]; omega, by rw [hall e1]; omega, ?_⟩, rfl, Wrote.of_below e2⟩
      rw [hall e1]
      exact cl_holds.2 (fun t ht => by
        obtain ⟨f1, f2⟩ := h5 t ht
        exact ⟨cell_then e2 f1, by rw [World.frozen?_of_block (a := ⟨b, off + t, none⟩) (e2.block b h2)]; exact f2⟩)
    have hstart : Hid (∀ k W, k < m → P (zs.getD k 0) = true → (∀ x ∈ zs.take k, P x = false) → Below w.heap.size w W → Hid (Wrote (fun k => k = b) w (fun k => k = b) W) ∧ Hid (Cl W b off (Dl P zs (k + 1) ++ zs.drop (Dl P zs (k + 1)).length)) ∧ (Dl P zs (k + 1)).length = k) := Lib.hid fun k W hk e1 e2 hb => by
      have e3 : Dl P zs (k + 1) = zs.take k := by
        rw [dl_next (by omega), if_pos e1]
        exact List.filter_eq_self.2 fun x hx => by rw [e2 x hx]; rfl
      have e4 : (zs.take k).length = k := by rw [List.length_take]; omega
      rw [e3, e4, List.take_append_drop]
      exact ⟨Lib.hid (Wrote.of_below hb), Lib.hid (h5.wrote (H := fun _ => False) (H' := fun _ => False) (Wrote.of_below hb) h2 id), rfl⟩
    have hget : Hid (∀ j i, j < m → (Dl P zs j).length = i → i < j → (Dl P zs j ++ zs.drop i).getD j 0 = zs.getD j 0) := Lib.hid fun j i hj hi hij => by
      rw [List.getD_eq_getElem?_getD, List.getElem?_append_right (by omega), List.getElem?_drop, show i + (j - (Dl P zs j).length) = j by omega, ← List.getD_eq_getElem?_getD]
    have hput : Hid (∀ j i, j < m → (Dl P zs j).length = i → i < j → (Dl P zs j ++ zs.drop i).set i (zs.getD j 0) = Dl P zs j ++ [zs.getD j 0] ++ zs.drop (i + 1)) := Lib.hid fun j i hj hi hij => by
      have e1 : zs.drop i = zs.getD i 0 :: zs.drop (i + 1) := by
        rw [List.getD_eq_getElem?_getD, List.getElem?_eq_getElem (by omega)]
        exact List.drop_eq_getElem_cons (by omega)
      rw [e1, List.set_append_right _ _ (by omega), hi, Nat.sub_self, List.set_cons_zero, List.append_assoc]; rfl
    have hz : ∀ W : World, (zeroValue 3).run Try.prog W = .ok (.int .i64 0) W := zeroI
    have hclr : Hid (∀ (W : World) (i : Nat), i < m → Cl W b off (Dl P zs m ++ zs.drop i) → (Dl P zs m).length = i → ∀ ty, (Builtin.clear_ #[23] ty #[.slice (some ⟨b, off + i, none⟩) (m - i) (cap - i)]).run Try.prog W = .ok (.tuple #[]) (W.setCells b (off + i) (List.replicate (m - i) (.int .i64 0)))) := Lib.hid fun W i hi hc hl ty => by
      have hL := hlen.out m (Nat.le_refl _)
      rw [hl] at hL
      exact Lib.run_clear_slice W 23 3 ty (.int .i64 0) Try.underlying23 hz rfl rfl b (off + i) _ _ (by omega) (fun t ht => by rw [Nat.add_assoc, (hc (i + t) (by omega)).1]; rfl) (fun t ht => by rw [Nat.add_assoc]; exact (hc (i + t) (by omega)).2)
    rw [hm0] at ci h3 h4 ⊢
    replace hm0 := Lib.hid hm0
    clear hp hI h5 hall h1
    go_enter Try.func68, Try.ntmps68
    go_wp2_with fail
    with_reducible refine Calls.mono ci ?_
    rintro e w2 ⟨r, rfl, hr, hb2⟩
    clear ci
    rcases hr with ⟨rfl, hno⟩ | ⟨k, hk, rfl, hk1, hk2⟩
    · have hf := Lib.hid (hfin0.out w2 hno hb2)
      clear hno hfin0 hstart hfin hlen hle hnx hcall hst hget hput hclr
      go_wp2_with fail
      go_ret
      exact hf.out
    · have hk : k < m := by have := hm0.out; omega
      obtain ⟨s1, s2, s3⟩ := hstart.out k w2 hk hk1 hk2 hb2
      replace s3 := Lib.hid s3
      have ka : ((k : Int) == -1) = false := beq_eq_false_iff_ne.2 (by omega)
      have kb : decide ((k : Int) = -1) = false := decide_eq_false (by omega)
      have k0 : (0 : Int) ≤ (k : Int) := by omega
      clear hk1 hk2 hb2 hstart hfin0
      go_wp2_with fail
      go_loopw [5, 6] (fun u5 u6 wr => ∃ i j : Nat, u5 = .int .i64 i ∧ u6 = .int .i64 j ∧ i < j ∧ j ≤ m ∧ Hid ((Dl P zs j).length = i) ∧ Hid (Wrote (fun k => k = b) w (fun k => k = b) wr) ∧ Hid (Cl wr b off (Dl P zs j ++ zs.drop (Dl P zs j).length))) (fun _ u _ => (m - (RowKit.intOf u).toNat))
      case atStart => exact ⟨k, k + 1, rfl, by go_num, by omega, by omega, s3, s1, s2⟩
      case round =>
        obtain ⟨i, j, rfl, rfl, hij, hjm, hli, hwr, hcl⟩ := hrel
        clear s1 s2 s3 ka kb k0
        have hLm := hlen.out j hjm
        have hcl2 := hcl.out
        rw [hli.out] at hLm hcl2
        have i0 : (0 : Int) ≤ (i : Int) := by omega
        have j0 : (0 : Int) ≤ (j : Int) := by omega
        by_cases hlt : j < m
        · have j2 : (j : Int) < (m : Int) := by omega
          have i2 : (i : Int) < (m : Int) := by omega
          have cz := (hcl2 j (by omega)).1
          rw [hget.out j i hlt hli.out hij] at cz
          obtain ⟨ci0, fi0⟩ := hcl2 i (by omega)
          have hc := hcall.out j hlt wr (hst.out wr hwr.out)
          have hn1 := hnx.out j hlt
          have hp1 := hput.out j i hlt hli.out hij
          have hbw : b < wr.heap.size := Nat.lt_of_lt_of_le h2 hwr.out.size
          obtain ⟨x, hx⟩ : ∃ x, zs.getD j 0 = x := ⟨_, rfl⟩
          rw [hx] at cz hc hn1 hp1
          obtain ⟨y, hy⟩ : ∃ y, (Dl P zs j ++ zs.drop i).getD i 0 = y := ⟨_, rfl⟩
          rw [hy] at ci0
          cases hP : P x with
          | true =>
            rw [hP] at hc
            rw [if_pos hP] at hn1
            have key : Hid (∀ W, Below wr.heap.size wr W → Hid ((Dl P zs (j + 1)).length = i) ∧ Hid (Wrote (fun k => k = b) w (fun k => k = b) W) ∧ Hid (Cl W b off (Dl P zs (j + 1) ++ zs.drop (Dl P zs (j + 1)).length))) := Lib.hid fun W hb => by
              rw [hn1, hli.out]
              exact ⟨Lib.hid rfl, Lib.hid (hwr.out.trans (Wrote.of_below hb)), Lib.hid (hcl2.wrote (H := fun _ => False) (H' := fun _ => False) (Wrote.of_below hb) hbw id)⟩
            clear hcl hcl2 hwr hn1 hp1 hx hli hy ci0 fi0 hLm hP
            go_wp2_with fail
            refine Calls.mono hc ?_
            rintro e w6 ⟨rfl, hb6⟩
            obtain ⟨q1, q2, q3⟩ := key.out w6 hb6
            clear hc key hb6
            go_wp2_with fail
            go_roundw
            case rel => exact ⟨i, j + 1, rfl, by go_num, by omega, by omega, q1, q2, q3⟩
            case measure => simp [RowKit.intOf]; omega
          | false =>
            rw [hP] at hc
            rw [if_neg (by rw [hP]; decide)] at hn1
            have key : Hid (∀ W, Below wr.heap.size wr W → W.cell? ⟨b, off + i, none⟩ = some (.int .i64 y) ∧ W.frozen? ⟨b, off + i, none⟩ = false ∧ Hid ((Dl P zs (j + 1)).length = i + 1) ∧ Hid (Wrote (fun k => k = b) w (fun k => k = b) (W.setCell ⟨b, off + i, none⟩ (.int .i64 x))) ∧ Hid (Cl (W.setCell ⟨b, off + i, none⟩ (.int .i64 x)) b off (Dl P zs (j + 1) ++ zs.drop (Dl P zs (j + 1)).length))) := Lib.hid fun W hb => by
              have c1 : Cl W b off (Dl P zs j ++ zs.drop i) := hcl2.wrote (H := fun _ => False) (H' := fun _ => False) (Wrote.of_below hb) hbw id
              have c2 := c1.set (k := i) (by omega) x
              rw [hp1] at c2
              have e1 : (Dl P zs (j + 1)).length = i + 1 := by rw [hn1, List.length_append, hli.out]; rfl
              refine ⟨cell_then hb ci0, by rw [World.frozen?_of_block (a := ⟨b, off + i, none⟩) (hb.block b hbw)]; exact fi0, Lib.hid e1, Lib.hid ((hwr.out.trans (Wrote.of_below hb)).trans (wrote_setCell (a := ⟨b, off + i, none⟩) rfl rfl rfl rfl rfl)), Lib.hid ?_⟩
              rw [e1, hn1]
              exact c2
            clear hcl hcl2 hwr hn1 hp1 hx hli hy ci0 fi0 hLm hP
            go_wp2_with fail
            refine Calls.mono hc ?_
            rintro e w6 ⟨rfl, hb6⟩
            obtain ⟨q4, q5, q1, q2, q3⟩ := key.out w6 hb6
            clear hc key hb6
            go_wp2_with fail
            go_roundw
            case rel => exact ⟨i + 1, j + 1, by go_num, by go_num, by omega, by omega, q1, q2, q3⟩
            case measure => simp [RowKit.intOf]; omega
        · obtain rfl : j = m := by omega
          have hcr := hclr.out wr i hij hcl2 hli.out
          have hf := hfin.out wr (wr.setCells b (off + i) (List.replicate (j - i) (.int .i64 0))) hwr.out (by
            have := hcl2.clear (k := i) (by omega) (j - i)
            rw [List.take_left' hli.out] at this
            exact this) (wrote_cells _ _ _)
          rw [hli.out] at hf
          replace hf := Lib.hid hf
          have j2 : ¬ (j : Int) < (j : Int) := by omega
          have i3 : (i : Int) ≤ (j : Int) := by omega
          have i4 : (i : Int) ≤ (cap : Int) := by omega
          have i5 : i ≤ cap := by omega
          clear hcl hcl2 hwr hfin hlen hle hnx hcall hst hget hput hclr hLm hli
          go_wp2_with fail
          go_ret
          exact hf.out
  · have hemp : Hid (∀ W, Below w.heap.size w W → ∃ v', Ending.returned (.slice a 0 cap) = .returned v' ∧ Rw0 lo W v' (([] : List Int).filter fun x => !P x) ∧ v'.ownBlock = (Value.slice a 0 cap).ownBlock ∧ Wrote (fun k => (Value.slice a 0 cap).ownBlock = some k) w (fun k => (Value.slice a 0 cap).ownBlock = some k) W) := Lib.hid fun W hb => ⟨_, rfl, .inr ⟨rfl, a, cap, rfl, h1⟩, rfl, Wrote.of_below hb⟩
    clear hp hI hall h1
    go_enter Try.func68, Try.ntmps68
    go_wp2_with fail
    with_reducible refine Calls.mono ci ?_
    rintro e w2 ⟨r, rfl, hr, hb⟩
    obtain rfl : r = -1 := by
      rcases hr with ⟨e, _⟩ | ⟨k, hk, _⟩
      · exact e
      · simp at hk
    have hf := Lib.hid (hemp.out w2 hb)
    clear ci hr hb hemp
    go_wp2_with fail
    go_ret
    exact hf.out
end Vw
end Go.Proofs.Ytneibhcigbfigaa
