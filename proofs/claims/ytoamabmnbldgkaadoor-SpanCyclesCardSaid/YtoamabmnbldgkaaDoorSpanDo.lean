/- What a span's writing calls answer and turn: Alloc, Mark. -/
import Derived.Test.YtoamabmnbldgkaaDoorSpan
import Derived.Deep.DeepCutAuto
namespace Go.Proofs.YtoamabmnbldgkaaDoor
open Go.RowKit Go.Lib Fx Bm Cl
set_option linter.unusedVariables false

/-- The call answers v, turns the span's own blocks at most, and makes it the span told. -/
def Makes (v : Value) (w : World) (B : SB) (f c n fr : Nat) (U V : Nat → Bool) (e : Ending) (w' : World) : Prop := e = .returned v ∧ Turned B.lo B.hi w w' ∧ IsSpan w' B f c n fr U V
section
variable {B : SB} {f c n fr : Nat} {U V : Nat → Bool}
theorem IsSpan.turn_use {w w' : World} (h : IsSpan w B f c n fr U V) (hg : w.grownBy w' (some B.bu)) : Turned B.lo B.hi w w' := Turned.of_grown hg fun k hk => by cases hk; exact h.fit.bu1
theorem IsSpan.turn_mark {w w' : World} (h : IsSpan w B f c n fr U V) (hg : w.grownBy w' (some B.bm)) : Turned B.lo B.hi w w' := Turned.of_grown hg fun k hk => by cases hk; exact h.fit.bm1
theorem IsSpan.turn_head {w w' : World} (h : IsSpan w B f c n fr U V) (hg : w.grownBy w' (some B.p)) : Turned B.lo B.hi w w' := Turned.of_grown hg fun k hk => by cases hk; exact h.fit.p1
theorem setM_sub {U V : Nat → Bool} {n : Nat} (hs : ∀ i, V i = true → U i = true) {i : Int} (hi : hasI U i = true) : ∀ k, setM V n i k = true → U k = true := fun k hk => by
  unfold setM at hk
  split at hk
  · unfold upd at hk
    split at hk
    · rename_i e
      unfold hasI at hi
      rw [Bool.and_eq_true] at hi
      rw [e]; exact hi.2
    · exact hs k hk
  · exact hs k hk
theorem hasI_in {U : Nat → Bool} {n : Nat} (hU : ∀ i, n ≤ i → U i = false) {i : Int} (hi : hasI U i = true) : 0 ≤ i ∧ i < (n : Int) := by
  by_cases h : 0 ≤ i ∧ i < (n : Int)
  · exact h
  · rw [hasI_out hU h] at hi; cases hi
set_option maxRecDepth 100000 in
theorem span_mark (i : Int) (w : World) (h : IsSpan w B f c n fr U V) : Calls Tryd.prog 28 #[.pointer (some ⟨B.p, 0, none⟩), .int .i64 i] w
    (Makes (.bool (hasI U i && !hasI V i)) w B f c n fr U (if hasI U i then setM V n i else V)) := by
  have cu := span_used i w h
  cases hU : hasI U i with
  | false =>
    rw [hU] at cu
    have hd := h.drewN
    clear h
    go_enter Tryd.func28, Tryd.ntmps28
    go_wp2_with (go_at_call 37; ((with_reducible refine cu.mono ?_); rintro e w' ⟨rfl, k, rfl⟩))
    go_ret
    exact ⟨rfl, (Turned.refl _ _ _).drewN _, hd _⟩
  | true =>
    rw [hU] at cu
    have hin := hasI_in h.used.out hU
    go_enter Tryd.func28, Tryd.ntmps28
    have c3 := h.c3
    have hs := h.marked
    go_wp2_with fail
    refine cu.mono ?_
    rintro e w' ⟨rfl, k, rfl⟩
    have h2 := h.drewN k
    have hs := hs.drewN k
    have cs := setset_any i _ hs
    rw [decide_eq_true hin, Bool.true_and] at cs
    have ht : Turned B.lo B.hi w (w.drewN k) := (Turned.refl _ _ _).drewN _
    clear h
    go_wp2_with fail
    refine cs.mono ?_
    rintro e w2 ⟨rfl, hg, hs2⟩
    have h3 := h2.mark hg hs2 (setM_sub h2.sub hU)
    have ht2 := ht.trans (h2.turn_mark hg)
    clear h2 hs hs2
    go_wp2_with fail
    go_ret
    exact ⟨rfl, ht2, h3⟩
set_option maxRecDepth 100000 in
theorem span_alloc_no (black : Bool) (w : World) (h : IsSpan w B f c n fr U V) (hT : TabAt w) (hno : nextI U n fr false = -1) : Calls Tryd.prog 26 #[.pointer (some ⟨B.p, 0, none⟩), .bool black] w (Ans (.tuple #[.int .i64 0, .bool false]) w) := by
  have cf := span_full w h hT
  rw [hno] at cf
  clear h
  go_enter Tryd.func26, Tryd.ntmps26
  go_wp2_with (go_at_call 40; ((with_reducible refine cf.mono ?_); rintro e w' ⟨rfl, k, rfl⟩))
  go_ret2
  exact ⟨rfl, _, rfl⟩
set_option maxRecDepth 100000 in
set_option maxHeartbeats 1000000 in
theorem span_alloc (black : Bool) (q : Nat) (w : World) (h : IsSpan w B f c n fr U V) (hT : TabAt w) (hlo : 0 < B.lo) (hq : nextI U n fr false = q) (hq2 : q < n) : Calls Tryd.prog 26 #[.pointer (some ⟨B.p, 0, none⟩), .bool black] w
    (Makes (.tuple #[.int .i64 q, .bool true]) w B f c n q (upd U q true) (if black then upd V q true else V)) := by
  have cf := span_full w h hT
  rw [hq, show decide ((q : Int) < 0) = false from decide_eq_false (by omega)] at cf
  go_enter Tryd.func26, Tryd.ntmps26
  go_wp2_with fail
  refine cf.mono ?_
  rintro e w' ⟨rfl, k, rfl⟩
  have h2 := h.drewN k
  have hT2 := hT.drewN k
  have ht : Turned B.lo B.hi w (w.drewN k) := (Turned.refl _ _ _).drewN _
  clear h hT cf
  obtain ⟨w1, hw1⟩ : ∃ w1, w1 = w.drewN k := ⟨_, rfl⟩
  rw [← hw1] at h2 hT2 ht ⊢
  clear hw1
  have c2 := h2.c2
  have c4 := h2.c4
  have cn : Hid (∀ W, W.heap = w1.heap → Calls Tryd.prog 16 #[.pointer (some ⟨B.pu, 0, none⟩), .int .i64 fr, .bool false] W (Same (.int .i64 q) W)) := fun W e => by
    have := setnext_any (fr : Int) false W (h2.used.of_heap e) (hT2.of_heap e)
    rwa [Int.toNat_natCast, hq] at this
  have hfz : w1.frozen? ⟨B.p, 4, none⟩ = false := by unfold World.frozen?; rw [h2.head]; rfl
  have hfin := fun W => h2.from_ (W := W) (q := q) (by omega)
  clear hT2
  have hfin : Hid (∀ W : World, W.heap = (w1.setCell ⟨B.p, 4, none⟩ (.int .i64 q)).heap → W.os = w1.os → W.tape = w1.tape → W.output = w1.output → w1.grownBy W (some B.p) ∧ IsSpan W B f c n q U V) := hfin
  have h2 : Hid _ := h2
  go_wp2_with fail
  go_cut [5] (fun s5 wx => s5 = .bool false ∧ w1.grownBy wx (some B.p) ∧ IsSpan wx B f c n q U V)
  case first =>
    go_region_with (go_at_call 16; ((refine Calls.mono (cn.out _ (by rfl)) ?_); rintro e w' ⟨rfl, rfl⟩))
    all_goals (go_wp2_with fail; go_meet; exact ⟨rfl, hfin.out _ rfl rfl rfl rfl⟩)
  case rest =>
    obtain ⟨rfl, hg, h3⟩ := hcut
    have ht3 := ht.trans (h2.out.turn_head hg)
    clear cn hfin hg c2 c4 hfz
    have c2 := h3.c2
    have c4 := h3.c4
    obtain ⟨R, cs⟩ : ∃ R : Bool, Hid (∀ W, W.heap = wc.heap → W.os = wc.os → W.tape = wc.tape → W.output = wc.output → Calls Tryd.prog 12 #[.pointer (some ⟨B.pu, 0, none⟩), .int .i64 q] W (Makes (.bool R) w B f c n q (upd U q true) V)) := ⟨_, fun W e1 e2 e3 e4 => by
      refine (setset_any (q : Int) W (h3.used.of_heap e1)).mono ?_
      rintro e w' ⟨rfl, hg, hs⟩
      rw [show setM U n (q : Int) = upd U q true by unfold setM; rw [if_pos (by omega), Int.toNat_natCast]] at hs
      have hg' : wc.grownBy w' (some B.bu) := ⟨hg.os.trans e2, hg.tape.trans e3, hg.output.trans e4, by rw [← e1]; exact hg.size, fun k hk hne => by rw [← e1] at hk ⊢; exact hg.block k hk hne⟩
      exact ⟨rfl, ht3.trans (h3.turn_use hg'), h3.use hg' hs fun i hi => by unfold upd; split; rfl; exact h3.sub i hi⟩⟩
    have hle := h3.top
    clear h2 ht3 h3
    go_wp2_with fail
    go_cut [5] (fun s5 wx => s5 = .bool false ∧ Turned B.lo B.hi w wx ∧ IsSpan wx B f c n q (upd U q true) V)
    case first =>
      go_region_with (go_at_call 12; ((refine Calls.mono (cs.out _ (by rfl) (by rfl) (by rfl) (by rfl)) ?_); rintro e w' ⟨rfl, hg1, hg2⟩))
      all_goals (go_wp2_with fail; go_meet; exact ⟨rfl, hg1, hg2⟩)
    case rest =>
      obtain ⟨rfl, ht4, h4⟩ := hcut
      clear cs c2 c4
      have c3 := h4.c3
      have c4 := h4.c4
      cases black with
      | false =>
        go_wp2_with fail
        go_ret2
        exact ⟨rfl, ht4, h4⟩
      | true =>
        obtain ⟨R, cs⟩ : ∃ R : Bool, Hid (∀ W, W.heap = wc.heap → W.os = wc.os → W.tape = wc.tape → W.output = wc.output → Calls Tryd.prog 12 #[.pointer (some ⟨B.pm, 0, none⟩), .int .i64 q] W (Makes (.bool R) w B f c n q (upd U q true) (upd V q true))) := ⟨_, fun W e1 e2 e3 e4 => by
          refine (setset_any (q : Int) W (h4.marked.of_heap e1)).mono ?_
          rintro e w' ⟨rfl, hg, hs⟩
          rw [show setM V n (q : Int) = upd V q true by unfold setM; rw [if_pos (by omega), Int.toNat_natCast]] at hs
          have hg' : wc.grownBy w' (some B.bm) := ⟨hg.os.trans e2, hg.tape.trans e3, hg.output.trans e4, by rw [← e1]; exact hg.size, fun k hk hne => by rw [← e1] at hk ⊢; exact hg.block k hk hne⟩
          exact ⟨rfl, ht4.trans (h4.turn_mark hg'), h4.mark hg' hs fun i hi => by
            unfold upd at hi ⊢
            split
            · rfl
            · rename_i hne
              rw [if_neg hne] at hi
              have := h4.sub i hi
              unfold upd at this
              rwa [if_neg hne] at this⟩⟩
        clear ht4 h4
        go_wp2_with fail
        go_cut [5] (fun s5 wx => s5 = .bool false ∧ Turned B.lo B.hi w wx ∧ IsSpan wx B f c n q (upd U q true) (upd V q true))
        case first =>
          go_region_with (go_at_call 12; ((refine Calls.mono (cs.out _ (by rfl) (by rfl) (by rfl) (by rfl)) ?_); rintro e w' ⟨rfl, hg1, hg2⟩))
          all_goals (go_wp2_with fail; go_meet; exact ⟨rfl, hg1, hg2⟩)
        case rest =>
          obtain ⟨rfl, ht4, h4⟩ := hcut
          have c4 := h4.c4
          clear cs
          go_wp2_with fail
          go_ret2
          exact ⟨rfl, ht4, h4⟩
end
end Go.Proofs.YtoamabmnbldgkaaDoor
