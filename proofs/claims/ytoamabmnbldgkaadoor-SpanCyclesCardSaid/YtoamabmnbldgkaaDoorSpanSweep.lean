/- What Sweep of a span answers and turns: those that are used and not marked, rising, are free; none is marked any more. -/
import Derived.Test.YtoamabmnbldgkaaDoorSpanDo
namespace Go.Proofs.YtoamabmnbldgkaaDoor
open Go.RowKit Go.Lib Fx Bm Cl
set_option linter.unusedVariables false

def swU (U V : Nat → Bool) (q : Nat) : Nat → Bool := fun k => if k < q then U k && V k else U k
def swV (V : Nat → Bool) (q : Nat) : Nat → Bool := fun k => if k < q then false else V k
def swG (U V : Nat → Bool) : Nat → Bool := fun k => U k && !V k
theorem next_congr {M N : Nat → Bool} {n : Nat} {has : Bool} {q : Nat} (h : ∀ r, q ≤ r → M r = N r) : nextI M n q has = nextI N n q has := by
  rcases next_ways N n q has with ⟨e, h1⟩ | ⟨k, e, h1, h2, h3, h4⟩
  · rw [e]; exact next_not fun r h2 h3 => by rw [h r h2]; exact h1 r h2 h3
  · rw [e]; exact next_is h1 h2 (by rw [h k h1]; exact h3) fun r h5 h6 => by rw [h r h5]; exact h4 r h5 h6
theorem owns_slice {w : World} {base : Nat} {e : TypeId} {size : Nat} {v : Value} {n : Nat} {xs : List Value} (h : w.ownsRow base e size v n xs) : ∃ a l c, v = .slice a l c := by
  rcases h.2 with ⟨rfl, _⟩ | ⟨g, cap, cur, rfl, _⟩ <;> exact ⟨_, _, _, rfl⟩
/-- Half way through a sweep begun at w0: the places below q are done; blocks bs, bs + 1 hold the span and the row of those that are gone. -/
structure Sw (w0 : World) (B : SB) (f c n fr : Nat) (U V : Nat → Bool) (bs q : Nat) (w : World) : Prop where
  span : IsSpan w B f c n fr (swU U V q) (swV V q)
  sub : ∀ i, V i = true → U i = true
  s : w.heap[bs]? = some (.cells #[.pointer (some ⟨B.p, 0, none⟩)] 42 (0, 0))
  gone : ∃ v, w.heap[bs + 1]? = some (.cells #[v] 27 (0, 0)) ∧ w.ownsRow (bs + 2) 3 1 v (mem (swG U V) q).length ((mem (swG U V) q).map fun (x : Nat) => Value.int .i64 x)
  tab : TabAt w
  tlo : 0 < B.lo
  top : B.hi ≤ bs
  new : w0.heap.size ≤ bs
  turned : Turned B.lo B.hi w0 w
section
variable {w0 w : World} {B : SB} {f c n fr : Nat} {U V : Nat → Bool} {bs q k : Nat}
theorem Sw.skip (h : Sw w0 B f c n fr U V bs q w) (hk : q ≤ k) (hno : ∀ r, q ≤ r → r < k → U r ≠ true) : Sw w0 B f c n fr U V bs k w := by
  have e1 : swU U V k = swU U V q := by
    funext r
    unfold swU
    by_cases h1 : r < q
    · rw [if_pos h1, if_pos (by omega)]
    · by_cases h2 : r < k
      · rw [if_neg h1, if_pos h2]
        have := hno r (by omega) h2
        cases hU : U r with
        | true => exact absurd hU this
        | false => rfl
      · rw [if_neg h1, if_neg h2]
  have e2 : swV V k = swV V q := by
    funext r
    unfold swV
    by_cases h1 : r < q
    · rw [if_pos h1, if_pos (by omega)]
    · by_cases h2 : r < k
      · rw [if_neg h1, if_pos h2]
        have := hno r (by omega) h2
        cases hV : V r with
        | true => exact absurd (h.sub r hV) this
        | false => rfl
      · rw [if_neg h1, if_neg h2]
  have e3 : mem (swG U V) k = mem (swG U V) q := mem_skip hk fun r h1 h2 => by
    unfold swG
    have := hno r h1 h2
    cases hU : U r with
    | true => exact absurd hU this
    | false => simp
  refine ⟨by rw [e1, e2]; exact h.span, h.sub, h.s, ?_, h.tab, h.tlo, h.top, h.new, h.turned⟩
  rw [e3]; exact h.gone

theorem sweep_append {w2 w3 : World} {bs : Nat} {x u : Value} {l : Nat} {xs : List Value} {e t t' : TypeId} (hown2 : w2.ownsRow (bs + 2) e 1 x l xs) (hgrow : (w2.alloc (.cells #[u] t)).grownBy w3 x.ownBlock)
    (hv2 : w2.heap[bs + 1]? = some (.cells #[x] t' (0, 0))) (hbs : bs + 1 < w2.heap.size) :
    Turned (bs + 2) w2.heap.size w2 w3 ∧ w3.heap[bs + 1]? = some (.cells #[x] t' (0, 0)) ∧ w3.frozen? ⟨bs + 1, 0, none⟩ = false ∧ w3.cell? ⟨bs + 1, 0, none⟩ = some x := by
  have hg3 : w2.grownBy w3 x.ownBlock := ⟨hgrow.os, hgrow.tape, hgrow.output, by have := hgrow.size; simp at this; omega, fun j hj hne => (hgrow.block j (by simp; omega) hne).trans (Below.heap_alloc _ _ _ hj)⟩
  have ht3 : Turned (bs + 2) w2.heap.size w2 w3 := Turned.of_grown hg3 fun g hg => hown2.lt g hg
  have hv3 : w3.heap[bs + 1]? = some (.cells #[x] t' (0, 0)) := by rw [ht3.block _ hbs (by omega)]; exact hv2
  exact ⟨ht3, hv3, by unfold World.frozen?; rw [hv3]; rfl, by unfold World.cell?; rw [hv3]; rfl⟩
set_option maxRecDepth 100000 in
set_option maxHeartbeats 2000000 in
theorem sweep1_any (h : Sw w0 B f c n fr U V bs k w) (hU : U k = true) (hkn : k < n) : Calls Tryd.prog 56 #[.int .i64 k, .pointer (some ⟨bs, 0, none⟩), .pointer (some ⟨bs + 1, 0, none⟩)] w
    fun e w' => e = .returned (.tuple #[]) ∧ Sw w0 B f c n fr U V bs (k + 1) w' := by
  have s0 : w.cell? ⟨bs, 0, none⟩ = some (.pointer (some ⟨B.p, 0, none⟩)) := by unfold World.cell?; rw [h.s]; rfl
  have c3 := h.span.c3
  have cm := setclr_any (k : Int) w h.span.marked
  have hVk : hasI (swV V k) (k : Int) = V k := by
    unfold hasI swV; rw [decide_eq_true (by omega), Bool.true_and, Int.toNat_natCast, if_neg (by omega)]
  have hcV : clrM (swV V k) (k : Int) = swV V (k + 1) := by
    unfold clrM
    rw [if_pos (by omega), Int.toNat_natCast]
    funext r
    unfold upd swV
    by_cases h1 : r = k
    · rw [if_pos h1, if_pos (by omega)]
    · rw [if_neg h1]
      by_cases h2 : r < k
      · rw [if_pos h2, if_pos (by omega)]
      · rw [if_neg h2, if_neg (by omega)]
  rw [hVk, hcV] at cm
  have hlts := block_lt h.s
  have hfit := h.span.fit
  have hbm := hfit.bm1
  have hbu := hfit.bu1
  have htop := h.top
  cases hV : V k with
  | true =>
    rw [hV] at cm
    have hfin : Hid (∀ w', w.grownBy w' (some B.bm) → IsSet w' B.pm B.bm n (swV V (k + 1)) → Sw w0 B f c n fr U V bs (k + 1) w') := fun w' hg hs => by
      have ht := h.span.turn_mark hg
      have eU : swU U V (k + 1) = swU U V k := by
        funext r; unfold swU
        by_cases h1 : r = k
        · rw [h1, if_pos (by omega), if_neg (by omega), hU, hV]; rfl
        · by_cases h2 : r < k
          · rw [if_pos h2, if_pos (by omega)]
          · rw [if_neg h2, if_neg (by omega)]
      have e3 : mem (swG U V) (k + 1) = mem (swG U V) k := by
        rw [mem_succ]; unfold swG; rw [hU, hV]; simp
      refine ⟨?_, h.sub, ?_, ?_, h.tab.turned ht h.tlo, h.tlo, h.top, h.new, h.turned.trans ht⟩
      · rw [eU]
        refine h.span.mark hg hs fun i hi => ?_
        unfold swV at hi; unfold swU
        by_cases h1 : i < k + 1
        · rw [if_pos h1] at hi; cases hi
        · rw [if_neg h1] at hi; rw [if_neg (by omega)]; exact h.sub i hi
      · rw [ht.block _ hlts (by omega)]; exact h.s
      · obtain ⟨v, hv1, hv2⟩ := h.gone
        exact ⟨v, by rw [ht.block _ (block_lt hv1) (by omega)]; exact hv1, by rw [e3]; exact hv2.kept hg (.inr fun e => by have := (hv2.lt _ e).1; omega)⟩
    clear h
    go_enter Tryd.func56, Tryd.ntmps56
    go_wp2_with fail
    refine cm.mono ?_
    rintro e w' ⟨rfl, hg, hs⟩
    have := hfin.out w' hg hs
    clear cm
    go_wp2_with fail
    go_end0
    exact ⟨rfl, this⟩
  | false =>
    rw [hV] at cm
    have eV : swV V (k + 1) = swV V k := by
      funext r; unfold swV
      by_cases h1 : r = k
      · rw [h1, if_pos (by omega), if_neg (by omega), hV]
      · by_cases h2 : r < k
        · rw [if_pos h2, if_pos (by omega)]
        · rw [if_neg h2, if_neg (by omega)]
    have hUk : hasI (swU U V k) (k : Int) = true := by
      unfold hasI swU; rw [decide_eq_true (by omega), Bool.true_and, Int.toNat_natCast, if_neg (by omega)]; exact hU
    have hcU : clrM (swU U V k) (k : Int) = swU U V (k + 1) := by
      unfold clrM
      rw [if_pos (by omega), Int.toNat_natCast]
      funext r
      unfold upd swU
      by_cases h1 : r = k
      · rw [if_pos h1, if_pos (by omega), h1, hV, Bool.and_false]
      · rw [if_neg h1]
        by_cases h2 : r < k
        · rw [if_pos h2, if_pos (by omega)]
        · rw [if_neg h2, if_neg (by omega)]
    have e3 : mem (swG U V) (k + 1) = mem (swG U V) k ++ [k] := by
      rw [mem_succ]; unfold swG; rw [hU, hV]; rfl
    go_enter Tryd.func56, Tryd.ntmps56
    go_wp2_with fail
    refine cm.mono ?_
    rintro e w1 ⟨rfl, hg, hs⟩
    have h1 : Sw w0 B f c n fr U V bs k w1 := by
      have ht := h.span.turn_mark hg
      refine ⟨?_, h.sub, by rw [ht.block _ hlts (by omega)]; exact h.s, ?_, h.tab.turned ht h.tlo, h.tlo, h.top, h.new, h.turned.trans ht⟩
      · rw [eV] at hs; exact h.span.mark hg hs h.span.sub
      · obtain ⟨v, hv1, hv2⟩ := h.gone
        exact ⟨v, by rw [ht.block _ (block_lt hv1) (by omega)]; exact hv1, hv2.kept hg (.inr fun e => by have := (hv2.lt _ e).1; omega)⟩
    clear h cm hg hs s0 c3 hlts
    have s0 : w1.cell? ⟨bs, 0, none⟩ = some (.pointer (some ⟨B.p, 0, none⟩)) := by unfold World.cell?; rw [h1.s]; rfl
    have c2 := h1.span.c2
    have cu := setclr_any (k : Int) w1 h1.span.used
    rw [hUk, hcU] at cu
    have hlts := block_lt h1.s
    go_wp2_with fail
    refine cu.mono ?_
    rintro e w2 ⟨rfl, hg, hs⟩
    have ht := h1.span.turn_use hg
    have h2 : IsSpan w2 B f c n fr (swU U V (k + 1)) (swV V (k + 1)) := by
      rw [eV]
      refine h1.span.use hg hs fun i hi => ?_
      unfold swV at hi; unfold swU
      by_cases h2 : i < k
      · rw [if_pos h2] at hi; cases hi
      · rw [if_neg h2] at hi
        by_cases h3 : i = k
        · rw [h3, hV] at hi; cases hi
        · rw [if_neg (by omega)]; exact h1.sub i hi
    have hs2 : w2.heap[bs]? = some (.cells #[.pointer (some ⟨B.p, 0, none⟩)] 42 (0, 0)) := by rw [ht.block _ hlts (by omega)]; exact h1.s
    obtain ⟨v, hv1, hown⟩ := h1.gone
    obtain ⟨a0, l0, c0, rfl⟩ := owns_slice hown
    have hv2 : w2.heap[bs + 1]? = some (.cells #[.slice a0 l0 c0] 27 (0, 0)) := by rw [ht.block _ (block_lt hv1) (by omega)]; exact hv1
    have hown2 := hown.kept hg (.inr fun e => by have := (hown.lt _ e).1; omega)
    have hT2 := h1.tab.turned ht h1.tlo
    have htu := h1.turned.trans ht
    have hsub := h1.sub
    have hnew := h1.new
    have htlo := h1.tlo
    clear h1 cu hg hs ht hown s0 c2 hv1 hUk hcU
    have v0 : w2.cell? ⟨bs + 1, 0, none⟩ = some (.slice a0 l0 c0) := by unfold World.cell?; rw [hv2]; rfl
    have vf : w2.frozen? ⟨bs + 1, 0, none⟩ = false := by unfold World.frozen?; rw [hv2]; rfl
    have hbs : bs + 1 < w2.heap.size := block_lt hv2
    have hlen : (mem (swG U V) k).length ≤ 64 := by rw [mem_len]; have := cnt_le (swG U V) k; have := h2.n64; omega
    obtain ⟨i0, hi, hz0, hz1, hz2⟩ := info_parts infoI
    replace h2 : Hid _ := h2
    replace hs2 : Hid _ := hs2
    replace hv2 : Hid _ := hv2
    replace e3 : Hid _ := e3
    replace hV : Hid _ := hV
    replace hU : Hid _ := hU
    replace eV : Hid _ := eV
    go_wp2_with (at_builtin; refine wpList_append_own _ rfl _ _ 27 rfl (bs + 2) 3 i0 (.int .i64 0) 1 8 Tryd.underlying27 hi hz0 hz1 hz2 rfl (by decide) _ _ _ rfl (hown2.alloc _) ⟨w2.heap.size, 0, none⟩ 1 1 [.int .i64 k] rfl rfl (news_one w2 (.int .i64 k) 3) (fun x hx => by simp at hx; subst hx; rfl) (by unfold maxLen; omega) (by omega) (by simp; omega) ?_; intro v' w3 hown3 hgrow hnil; clear hnil; have hsw := sweep_append hown2 hgrow hv2.out hbs; obtain ⟨hg3, hv3, vf3, v03⟩ := hsw; obtain ⟨a', l', c', rfl⟩ := owns_slice hown3; replace hg3 := Lib.hid hg3; replace hv3 := Lib.hid hv3; replace hown3 := Lib.hid hown3; clear hgrow)
    go_end0
    refine ⟨rfl, ?_⟩
    have htop := h2.out.top
    have ht4 : Turned bs w2.heap.size w2 (w3.setCell ⟨bs + 1, 0, none⟩ (.slice a' l' c')) := (hg3.out.wide (by omega) (Nat.le_refl _)).trans ⟨rfl, rfl, rfl, by simp [World.setCell], fun j hj ho => Below.heap_setCell _ _ _ _ (by show j ≠ bs + 1; omega)⟩
    have hb2 : B.hi ≤ bs := by assumption
    refine ⟨h2.out.turned ht4 (.inr hb2), hsub, ?_, ⟨.slice a' l' c', ?_, ?_⟩, hT2.turned ht4 (by omega), htlo, by assumption, hnew, ?_⟩
    · rw [Below.heap_setCell _ _ _ _ (by show bs ≠ bs + 1; omega), hg3.out.block _ (by omega) (.inl (by omega))]; exact hs2.out
    · simp only [World.setCell, Array.getElem?_modify]
      rw [hv3.out]; rfl
    · rw [e3.out, List.length_append, List.map_append]
      exact ownsRow_setCell_below hown3.out (by show bs + 1 < bs + 2; omega) _
    · refine ⟨ht4.os.trans htu.os, ht4.tape.trans htu.tape, ht4.output.trans htu.output, Nat.le_trans htu.size ht4.size, fun j hj ho => ?_⟩
      have := htu.size
      exact (ht4.block j (by omega) (.inl (by omega))).trans (htu.block j hj ho)

theorem sw_next (h : Sw w0 B f c n fr U V bs q w) : Calls Tryd.prog 16 #[.pointer (some ⟨B.pu, 0, none⟩), .int .i64 q, .bool true] w (Same (.int .i64 (nextI U n q true)) w) := by
  have := setnext_any (q : Int) true w h.span.used h.tab
  rw [Int.toNat_natCast, next_congr (N := U) (fun r hr => by unfold swU; rw [if_neg (by omega)])] at this
  exact this
set_option maxRecDepth 100000 in
set_option maxHeartbeats 2000000 in
theorem each_any (h : Sw w0 B f c n fr U V bs 0 w) : Calls Tryd.prog 55 #[.pointer (some ⟨B.p, 0, none⟩), .func (.func 56) #[] #[.pointer (some ⟨bs, 0, none⟩), .pointer (some ⟨bs + 1, 0, none⟩)]] w
    fun e w' => e = .returned (.tuple #[]) ∧ Sw w0 B f c n fr U V bs n w' := by
  have c2 := h.span.c2
  have cn := sw_next h
  have h : Hid (Sw w0 B f c n fr U V bs 0 w) := h
  go_enter Tryd.func55, Tryd.ntmps55
  go_wp2_with fail
  refine cn.mono ?_
  rintro e w' ⟨rfl, rfl⟩
  clear cn
  go_wp2_with fail
  go_loopg [4] n (fun g u wr => ∃ q : Nat, q + g = n ∧ u = .int .i64 (nextI U n q true) ∧ Hid (Sw w0 B f c n fr U V bs q wr))
  case atStart => exact ⟨0, by omega, rfl, h⟩
  case round =>
    obtain ⟨q, hq, rfl, hs⟩ := hrel
    clear c2
    rcases next_ways U n q true with ⟨e, hno⟩ | ⟨k, e, k1, k2, k3, k4⟩
    · have hs2 := hs.out.skip (k := n) (by omega) hno
      clear hs h hno
      go_wp2_with fail
      go_end0
      exact ⟨rfl, hs2⟩
    · have hs2 := hs.out.skip (k := k) k1 k4
      have c1 := sweep1_any hs2 k3 k2
      have c2 := hs2.span.c2
      have kn : (k : Int) ≤ 16777216 := by have := hs2.span.n64; omega
      have k0 : (0 : Int) ≤ k := Int.natCast_nonneg k
      clear hs h k3 k4 hs2
      go_wp2_with fail
      refine c1.mono ?_
      rintro e2 w2 ⟨rfl, hs3⟩
      have c2 := hs3.span.c2
      have cn := sw_next hs3
      rw [Int.natCast_succ] at cn
      replace hs3 := Lib.hid hs3
      clear c1
      go_wp2_with fail
      refine cn.mono ?_
      rintro e2 w3 ⟨rfl, rfl⟩
      go_wp2_with fail
      go_roundg (n - (k + 1))
      case measure => omega
      case rel => exact ⟨k + 1, by omega, rfl, hs3⟩

/-- The call answers the places vs, rising; the span has no one of them any more, and none is marked. -/
def Swept (w : World) (B : SB) (f c n : Nat) (U V : Nat → Bool) (e : Ending) (w' : World) : Prop :=
  ∃ v, e = .returned v ∧ Turned B.lo B.hi w w' ∧ IsSpan w' B f c n 0 (fun k => U k && V k) (fun _ => false) ∧ IntsAt w' w.heap.size v ((mem (swG U V) n).map fun (x : Nat) => (x : Int))
theorem IsSpan.of_same {w : World} (h : IsSpan w B f c n fr U V) {U' V' : Nat → Bool} (hu : ∀ i, U i = U' i) (hv : ∀ i, V i = V' i) : IsSpan w B f c n fr U' V' := by
  obtain rfl : U = U' := funext hu
  obtain rfl : V = V' := funext hv
  exact h
theorem sw_start (h : IsSpan w B f c n fr U V) (hT : TabAt w) (hlo : 0 < B.lo) :
    Sw w B f c n fr U V w.heap.size 0 ((w.alloc (.cells #[.pointer (some ⟨B.p, 0, none⟩)] 42)).alloc (.cells #[.slice none 0 0] 27)) := by
  have hb : Below w.heap.size w ((w.alloc (.cells #[.pointer (some ⟨B.p, 0, none⟩)] 42)).alloc (.cells #[.slice none 0 0] 27)) := below_alloc (below_alloc (Below.refl _ _) _) _
  refine ⟨(h.below hb).of_same (fun i => by unfold swU; rw [if_neg (by omega)]) (fun i => by unfold swV; rw [if_neg (by omega)]), h.sub, ?_, ⟨.slice none 0 0, heap_alloc2_new _ _ _, ?_⟩, hT.below hb, hlo, h.top, Nat.le_refl _, Turned.of_below hb⟩
  · rw [Below.heap_alloc _ _ _ (by simp)]; exact heap_alloc_new _ _
  · exact World.ownsRow_nil _ _ _ _
theorem sw_end (h : Sw w0 B f c n fr U V bs n w) : IsSpan w B f c n fr (fun k => U k && V k) (fun _ => false) := by
  have hV : ∀ i, n ≤ i → V i = false := fun i hi => by
    have := h.span.marked.out i hi
    unfold swV at this
    rwa [if_neg (by omega)] at this
  refine h.span.of_same (fun i => ?_) fun i => ?_
  · unfold swU
    by_cases hi : i < n
    · rw [if_pos hi]
    · rw [if_neg hi]
      have := h.span.used.out i (by omega)
      unfold swU at this
      rw [if_neg hi] at this
      rw [this]; rfl
  · unfold swV
    by_cases hi : i < n
    · rw [if_pos hi]
    · rw [if_neg hi]; exact hV i (by omega)
set_option maxRecDepth 100000 in
set_option maxHeartbeats 2000000 in
theorem span_sweep (w : World) (h : IsSpan w B f c n fr U V) (hT : TabAt w) (hlo : 0 < B.lo) : Calls Tryd.prog 29 #[.pointer (some ⟨B.p, 0, none⟩)] w (Swept w B f c n U V) := by
  have hmf : ∀ (fn : Fn) (first cap : Array Value) (w : World), (Instr.makeFunc fn first cap).run Tryd.prog w = .ok (.func fn first cap) w := fun _ _ _ _ => rfl
  have hs := sw_start h hT hlo
  have ce := each_any hs
  have b0 : ((w.alloc (.cells #[.pointer (some ⟨B.p, 0, none⟩)] 42)).alloc (.cells #[.slice none 0 0] 27)).cell? ⟨w.heap.size, 0, none⟩ = some (.pointer (some ⟨B.p, 0, none⟩)) := by unfold World.cell?; rw [hs.s]; rfl
  have b1 : (w.alloc (.cells #[.pointer (some ⟨B.p, 0, none⟩)] 42)).cell? ⟨w.heap.size, 0, none⟩ = some (.pointer (some ⟨B.p, 0, none⟩)) := by unfold World.cell?; rw [heap_alloc_new]; rfl
  clear h hs hT
  go_enter Tryd.func29, Tryd.ntmps29
  go_wp2_with fail
  refine ce.mono ?_
  rintro e w1 ⟨rfl, hs⟩
  have s0 : w1.cell? ⟨w.heap.size, 0, none⟩ = some (.pointer (some ⟨B.p, 0, none⟩)) := by unfold World.cell?; rw [hs.s]; rfl
  obtain ⟨v, hv, hown⟩ := hs.gone
  have hp := sw_end hs
  have ht := hs.turned
  have v0 : w1.cell? ⟨w.heap.size + 1, 0, none⟩ = some v := by unfold World.cell?; rw [hv]; rfl
  have c4 := hp.c4
  have hfz : w1.frozen? ⟨B.p, 4, none⟩ = false := by unfold World.frozen?; rw [hp.head]; rfl
  have hfin : Hid (∀ W : World, W.heap = (w1.setCell ⟨B.p, 4, none⟩ (.int .i64 0)).heap → W.os = w1.os → W.tape = w1.tape → W.output = w1.output → Swept w B f c n U V (.returned v) W) := fun W e1 e2 e3 e4 => by
    have ⟨hg, hp2⟩ := hp.from_ (W := W) (q := 0) (by omega) e1 e2 e3 e4
    refine ⟨v, rfl, ht.trans (hp.turn_head hg), hp2, ?_⟩
    have hi := ints_of_owns (hown.kept hg (.inr fun e => by have := (hown.lt _ e).1; have := hp.fit.p1; have := hs.top; omega))
    obtain ⟨sp, cap, e, h1, h2⟩ := hi
    exact ⟨sp, cap, e, h1, fun i hi => by obtain ⟨b, off, e2, h3, h4, h5⟩ := h2 i hi; exact ⟨b, off, e2, by omega, h4, h5⟩⟩
  obtain ⟨a0, l0, c0, rfl⟩ := owns_slice hown
  have hne : B.p ≠ w.heap.size + 1 := by have := hp.fit.p1; have := hs.top; omega
  clear hs hp ht hown hv ce b0 b1
  go_wp2_with fail
  go_ret
  exact hfin.out _ rfl rfl rfl rfl
end
end Go.Proofs.YtoamabmnbldgkaaDoor
