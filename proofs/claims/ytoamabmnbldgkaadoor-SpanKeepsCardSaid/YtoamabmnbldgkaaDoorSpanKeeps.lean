/- For any four whole numbers (a class, how many are allocated, which are black, which are marked) the statement SpanKeeps answers true: what is marked, or was allocated black, stays through a sweep, all else goes, and its places come again, the least first. The library's table math/bits.deBruijn64tab lies as its initialiser lays it (tied by the card); no other condition. -/
import Derived.Test.YtoamabmnbldgkaaDoorSpanLists
import Derived.WalkKit
import Derived.ProofKit
import Derived.OpenShut
import Derived.Test.YtoamabmnbldgkaaDoorTie
import Derived.Test.YtoamabmnbldgkaaDoorCards
import Derived.LaidMore
import Derived.Stop.Joined
import Derived.SevenTiedAt
namespace Go.Proofs.YtoamabmnbldgkaaDoor.spanKeeps
open Go.ChangeShapes Go.WideShapes Go.ChangeAt Go.WideElems Go.RowKit Go.Lib Fx Bm Cl
set_option linter.unusedVariables false

theorem own : ownKnob Tryd.prog.godebug = none := by kernel_rfl

/-- Which places stay: those allocated black, those marked. -/
def kp (b m : Nat) (r : Nat) : Bool := decide (r % b = 0) || decide (r % m = 0)
/-- Half way through the allocations. -/
def kpU (i : Nat) : Nat → Bool := fun r => decide (r < i)
def kpV (b m i : Nat) : Nat → Bool := fun r => decide (r < i) && kp b m r
theorem kp_next {n i fr : Nat} (hfr : fr ≤ i) (hi : i < n) : nextI (kpU i) n fr false = (i : Int) :=
  next_is hfr hi (by unfold kpU; simp) fun r _ h2 => by unfold kpU; simp [h2]
theorem kp_use (i : Nat) : upd (kpU i) i true = kpU (i + 1) := by
  funext r; unfold upd kpU
  by_cases h : r = i
  · rw [if_pos h]; exact (decide_eq_true (by omega)).symm
  · rw [if_neg h]; exact decide_eq_decide.2 (by omega)
theorem kp_mark {b m i : Nat} (h : kp b m i = true) : upd (kpV b m i) i true = kpV b m (i + 1) := by
  funext r; unfold upd kpV
  by_cases e : r = i
  · rw [if_pos e, e, h, decide_eq_true (by omega)]; rfl
  · rw [if_neg e, show decide (r < i + 1) = decide (r < i) from decide_eq_decide.2 (by omega)]
theorem kp_not {b m i : Nat} (h : kp b m i = false) : kpV b m i = kpV b m (i + 1) := by
  funext r; unfold kpV
  by_cases e : r = i
  · rw [e, h, Bool.and_false, Bool.and_false]
  · rw [show decide (r < i + 1) = decide (r < i) from decide_eq_decide.2 (by omega)]
theorem kp_at (b m i : Nat) : kpV b m i i = false := by unfold kpV; rw [decide_eq_false (by omega)]; rfl
theorem kp_here (i : Nat) : kpU (i + 1) i = true := by unfold kpU; exact decide_eq_true (by omega)
/-- Behind the sweep, with what went allocated again below t. -/
def kpW (b m k t : Nat) : Nat → Bool := fun r => decide (r < k) && (kp b m r || decide (r < t))
theorem kpW_next {b m n k t fr q : Nat} (hkn : k ≤ n) (hfr : fr ≤ t) (h1 : t ≤ q) (h2 : q < k) (h3 : (!kp b m q) = true) (h4 : ∀ r, t ≤ r → r < q → (!kp b m r) = false) : nextI (kpW b m k t) n fr false = (q : Int) :=
  next_is (by omega) (by omega) (by
    unfold kpW
    have : kp b m q = false := by simpa using h3
    rw [this, decide_eq_false (show ¬ q < t by omega)]; simp) fun r h5 h6 => by
    unfold kpW
    rw [decide_eq_true (show r < k by omega)]
    by_cases h7 : r < t
    · simp [h7]
    · have := h4 r (by omega) h6
      have : kp b m r = true := by simpa using this
      simp [this]
theorem kpW_use {b m k t q : Nat} (h1 : t ≤ q) (h2 : q < k) (h4 : ∀ r, t ≤ r → r < q → (!kp b m r) = false) : upd (kpW b m k t) q true = kpW b m k (q + 1) := by
  funext r; unfold upd kpW
  by_cases e : r = q
  · rw [if_pos e, e, decide_eq_true h2, decide_eq_true (show q < q + 1 by omega)]; simp
  · rw [if_neg e]
    by_cases h5 : r < t
    · rw [decide_eq_true h5, decide_eq_true (show r < q + 1 by omega)]
    · by_cases h6 : r < q
      · have := h4 r (by omega) h6
        have : kp b m r = true := by simpa using this
        rw [this]; simp
      · rw [decide_eq_false h5, decide_eq_false (show ¬ r < q + 1 by omega)]
theorem kpW_end {b m k t : Nat} (h : ∀ r, t ≤ r → r < k → (!kp b m r) = false) : kpW b m k t = kpU k := by
  funext r; unfold kpW kpU
  by_cases h1 : r < k
  · rw [decide_eq_true h1]
    by_cases h2 : r < t
    · rw [decide_eq_true h2]; simp
    · have := h r (by omega) h1
      have : kp b m r = true := by simpa using this
      rw [this]; simp
  · rw [decide_eq_false h1]; rfl
theorem kp_rem {i b : Nat} (hb : 1 ≤ b) : ((i : Int) % (b : Int) == 0) = decide (i % b = 0) ∧ ((i : Int).tmod (b : Int) == 0) = decide (i % b = 0) ∧ ((i : Int) % (b : Int) != 0) = !decide (i % b = 0) ∧ ((i : Int).tmod (b : Int) != 0) = !decide (i % b = 0) := by
  have e1 : (i : Int) % (b : Int) = ((i % b : Nat) : Int) := (Int.natCast_emod i b).symm
  have e2 : (i : Int).tmod (b : Int) = ((i % b : Nat) : Int) := by rw [Int.tmod_eq_emod_of_nonneg (by omega), e1]
  have e3 : (((i % b : Nat) : Int) == 0) = decide (i % b = 0) := by
    by_cases h : i % b = 0
    · rw [h]; rfl
    · rw [decide_eq_false h, beq_eq_false_iff_ne]; omega
  refine ⟨by rw [e1, e3], by rw [e2, e3], ?_, ?_⟩
  · show (!((i : Int) % (b : Int) == 0)) = _
    rw [e1, e3]
  · show (!((i : Int).tmod (b : Int) == 0)) = _
    rw [e2, e3]
theorem mark_any_heap {B : SB} {f c n fr : Nat} {U V : Nat → Bool} {w : World} (i : Nat) (h : IsSpan w B f c n fr U V) (hU : U i = true) : Hid (∀ W, W.heap = w.heap → W.os = w.os → W.tape = w.tape → W.output = w.output → Calls Tryd.prog 28 #[.pointer (some ⟨B.p, 0, none⟩), .int .i64 i] W (Makes (.bool (!V i)) w B f c n fr U (upd V i true))) := fun W e1 e2 e3 e4 => by
  have hW : IsSpan W B f c n fr U V := ⟨by rw [e1]; exact h.head, h.used.of_heap e1, h.marked.of_heap e1, h.sub, h.fr, h.sl, h.cl, h.f1, h.f2, h.fit, by rw [e1]; exact h.top⟩
  refine (span_mark_yes i W hW hU).mono ?_
  rintro e w' ⟨rfl, ht, hs⟩
  exact ⟨rfl, ⟨ht.os.trans e2, ht.tape.trans e3, ht.output.trans e4, by rw [← e1]; exact ht.size, fun k hk ho => by rw [← e1] at hk ⊢; exact ht.block k hk ho⟩, hs⟩
theorem keep_append {w2 w3 : World} {T : Nat} {x u : Value} {l : Nat} {xs : List Value} {e t : TypeId} (hown2 : w2.ownsRow T e 1 x l xs) (hgrow : (w2.alloc (.cells #[u] t)).grownBy w3 x.ownBlock) :
    Turned T w2.heap.size w2 w3 := by
  have hg3 : w2.grownBy w3 x.ownBlock := ⟨hgrow.os, hgrow.tape, hgrow.output, by have := hgrow.size; simp at this; omega, fun j hj hne => (hgrow.block j (by simp; omega) hne).trans (Below.heap_alloc _ _ _ hj)⟩
  exact Turned.of_grown hg3 fun g hg => hown2.lt g hg
set_option maxRecDepth 100000 in
set_option maxHeartbeats 4000000 in
theorem walk (a0 : Int) (a1 : Int) (a2 : Int) (a3 : Int) (w : World) (hT : TabAt w) :
    Calls Tryd.prog 6 #[.int .i64 a0, .int .i64 a1, .int .i64 a2, .int .i64 a3] w fun e w' => e = .returned (.bool true) ∧ Below w.heap.size w w' := by
  obtain ⟨Y, hY⟩ : ∃ Y : Int, IntKind.u64.wrap a0 = Y := ⟨_, rfl⟩
  obtain ⟨Z, hZ⟩ : ∃ Z : Int, IntKind.u64.wrap a1 = Z := ⟨_, rfl⟩
  obtain ⟨A, hA⟩ : ∃ A : Int, IntKind.u64.wrap a2 = A := ⟨_, rfl⟩
  obtain ⟨D, hD⟩ : ∃ D : Int, IntKind.u64.wrap a3 = D := ⟨_, rfl⟩
  have y0 : 0 ≤ Y := by rw [← hY, IntKind.wrap_u64]; omega
  have z0 : 0 ≤ Z := by rw [← hZ, IntKind.wrap_u64]; omega
  have ea0 : 0 ≤ A := by rw [← hA, IntKind.wrap_u64]; omega
  have ed0 : 0 ≤ D := by rw [← hD, IntKind.wrap_u64]; omega
  obtain ⟨c, hc⟩ : ∃ c : Nat, Y % 16 = (c : Int) := ⟨(Y % 16).toNat, by omega⟩
  obtain ⟨x, hx⟩ : ∃ x : Int, A % 5 = x := ⟨_, rfl⟩
  obtain ⟨y, hy⟩ : ∃ y : Int, D % 5 = y := ⟨_, rfl⟩
  obtain ⟨b, hb⟩ : ∃ b : Nat, 1 + x = (b : Int) := ⟨(1 + x).toNat, by omega⟩
  obtain ⟨m, hm⟩ : ∃ m : Nat, 1 + y = (m : Int) := ⟨(1 + y).toNat, by omega⟩
  have x0 : 0 ≤ x := by omega
  have x1 : x < 5 := by omega
  have yy0 : 0 ≤ y := by omega
  have y1 : y < 5 := by omega
  have b1 : 1 ≤ b := by omega
  have m1 : 1 ≤ m := by omega
  have b2 : 1 ≤ (b : Int) := by omega
  have m2 : 1 ≤ (m : Int) := by omega
  have bz : ¬ (b : Int) = 0 := by omega
  have mz : ¬ (m : Int) = 0 := by omega
  have hc15 : c ≤ 15 := by omega
  have hsl := slots_in (k := c) (by omega) (by omega)
  obtain ⟨n, hn⟩ : ∃ n : Nat, (n : Int) = slotsI c := ⟨(slotsI c).toNat, by omega⟩
  have n1 : 1 ≤ (n : Int) := by omega
  have n2 : (n : Int) ≤ 64 := by omega
  have cnew := span_new 5 c n hc15 hn (by omega) (by omega) w
  obtain ⟨k, hk⟩ : ∃ k : Nat, Z % ((n : Int) + 1) = (k : Int) := ⟨(Z % ((n : Int) + 1)).toNat, by have := Int.emod_nonneg Z (show (n : Int) + 1 ≠ 0 by omega); omega⟩
  have kn : k ≤ n := by have := Int.emod_lt_of_pos Z (show (0 : Int) < (n : Int) + 1 by omega); omega
  have kn' : (k : Int) ≤ 64 := by omega
  have hlt := hT.lt
  clear hsl hn
  go_enter Tryd.func6, Tryd.ntmps6
  go_wp2_with fail
  with_reducible refine Calls.mono (cnew) ?_
  rintro e w1 ⟨B, rfl, hb1, hlo, hs1⟩
  have hT1 := hT.below hb1
  have htl : 0 < B.lo := by omega
  clear cnew
  go_wp2_with fail
  with_reducible refine Calls.mono (span_slots _ hs1) ?_
  rintro e w' ⟨rfl, rfl⟩
  obtain ⟨T, hTop⟩ : ∃ T, w1.heap.size = T := ⟨_, rfl⟩
  have hBT : B.hi ≤ T := by rw [← hTop]; exact hs1.top
  have hTw : T ≤ w1.heap.size := by omega
  have hwT : w.heap.size ≤ T := by rw [← hTop]; exact hb1.size
  clear hTop
  go_wp2_with fail
  replace hb := Lib.hid hb
  replace hm := Lib.hid hm
  replace hk := Lib.hid hk
  replace hx := Lib.hid hx
  replace hy := Lib.hid hy
  go_loopw [14, 15] (fun v u wr => ∃ (i fr : Nat), u = .int .i64 i ∧ i ≤ k ∧ fr ≤ i ∧ IsSpan wr B 5 c n fr (kpU i) (kpV b m i) ∧ wr.ownsRow T 3 1 v (mem (fun r => !kp b m r) i).length ((mem (fun r => !kp b m r) i).map fun (x : Nat) => Value.int .i64 x) ∧ Hid (TabAt wr) ∧ T ≤ wr.heap.size ∧ Below w.heap.size w wr) (fun _ u _ => (k - (intOf u).toNat))
  case atStart =>
    refine ⟨0, 0, rfl, by omega, by omega, hs1.of_same (fun r => ?_) (fun r => ?_), World.ownsRow_nil _ _ _ _, hT1, hTw, hb1⟩
    · unfold kpU; simp
    · unfold kpV; simp
  case round =>
    obtain ⟨i, fr, rfl, i1, hfr, hs, hown, hTr, hTs, hb⟩ := hrel
    clear hs1 hT1 hTw hb1
    by_cases hi : i < k
    · obtain ⟨e1, e2, e3, e4⟩ := kp_rem (i := i) b1
      obtain ⟨f1, f2, f3, f4⟩ := kp_rem (i := i) m1
      have i2 : (i : Int) < (k : Int) := by omega
      have hnx := kp_next hfr (show i < n by omega)
      have hap : (mem (fun r => !kp b m r) i).length ≤ 64 := by rw [mem_len]; have := cnt_le (fun r => !kp b m r) i; omega
      have hms := mem_succ (fun r => !kp b m r) i
      obtain ⟨j0, hji, hz0, hz1, hz2⟩ := info_parts infoI
      cases hβ : decide (i % b = 0) with
      | true =>
        rw [hβ] at e1 e2 e3 e4
        have e2 := Lib.hid e2
        have e4 := Lib.hid e4
        cases hμ : decide (i % m = 0) with
        | true =>
          rw [hμ] at f1 f2 f3 f4
          have f2 := Lib.hid f2
          have f4 := Lib.hid f4
          have hK : kp b m i = true := by unfold kp; rw [hβ, hμ]; rfl
          have al := span_alloc_black i _ hs hTr.out htl hnx (by omega)
          rw [kp_use, kp_mark hK] at al
          rw [hK] at hms
          have hV1 : kpV b m (i + 1) i = true := by unfold kpV; rw [hK, decide_eq_true (show i < i + 1 by omega)]; rfl
          replace hV1 := Lib.hid hV1
          clear hβ hμ hK hnx
          replace hms := Lib.hid hms
          replace hTr := hTr.out
          go_wp2_with fail
          with_reducible refine Calls.mono (al) ?_
          rintro e w2 ⟨rfl, ht, hs2⟩
          have hT2 := hTr.turned ht htl
          have hown2 := owns_turned hown ht hBT
          have hT3 : T ≤ w2.heap.size := Nat.le_trans hTs ht.size
          have hb2 := ht.below hb hlo
          clear al hs hTr hown hTs hb ht
          have cm := mark_any_heap i hs2 (kp_here i)
          rw [hV1.out, upd_same hV1.out] at cm
          have c2 := hb2
          replace hs2 := Lib.hid hs2
          replace c2 := Lib.hid c2
          replace hb2 := Lib.hid hb2
          replace hT2 := Lib.hid hT2
          replace hown2 := Lib.hid hown2
          have e2 := e2.out
          have e4 := e4.out
          have f2 := f2.out
          have f4 := f4.out
          go_wp2_with fail
          go_cut [92] (fun s92 wx => s92 = .bool false ∧ Turned B.lo B.hi w2 wx ∧ IsSpan wx B 5 c n i (kpU (i + 1)) (kpV b m (i + 1)))
          case first =>
            go_region_with (go_at_call 28; ((refine Calls.mono (cm.out _ (by rfl) (by rfl) (by rfl) (by rfl)) ?_); rintro e w' ⟨rfl, hg1, hg2⟩))
            all_goals (go_wp2_with fail; go_meet; exact ⟨rfl, hg1, hg2⟩)
          case rest =>
            obtain ⟨rfl, ht, hs3⟩ := hcut
            have hT4 := hT2.out.turned ht htl
            have hown3 := owns_turned hown2.out ht hBT
            have hT5 : T ≤ wc.heap.size := Nat.le_trans hT3 ht.size
            have hb3 := ht.below hb2.out hlo
            clear cm c2 hs2 hb2 hT2 hown2 ht
            go_wp2_with fail
            go_roundw
            case rel => exact ⟨i + 1, i, by go_num, by omega, by omega, hs3, by rw [hms.out, if_neg (by simp), List.append_nil]; exact hown3, hT4, hT5, hb3⟩
            case measure => simp [intOf]; omega
        | false =>
          rw [hμ] at f1 f2 f3 f4
          have f2 := Lib.hid f2
          have f4 := Lib.hid f4
          have hK : kp b m i = true := by unfold kp; rw [hβ, hμ]; rfl
          have al := span_alloc_black i _ hs hTr.out htl hnx (by omega)
          rw [kp_use, kp_mark hK] at al
          rw [hK] at hms
          clear hβ hμ hK hnx
          replace hms := Lib.hid hms
          replace hTr := hTr.out
          go_wp2_with fail
          with_reducible refine Calls.mono (al) ?_
          rintro e w2 ⟨rfl, ht, hs2⟩
          have hT2 := hTr.turned ht htl
          have hown2 := owns_turned hown ht hBT
          have hT3 : T ≤ w2.heap.size := Nat.le_trans hTs ht.size
          have hb2 := ht.below hb hlo
          clear al hs hTr hown hTs hb ht
          have e2 := e2.out
          have e4 := e4.out
          have f2 := f2.out
          have f4 := f4.out
          replace hs2 := Lib.hid hs2
          replace hb2 := Lib.hid hb2
          replace hT2 := Lib.hid hT2
          go_wp2_with fail
          go_quiet (fail)
          have hs3 := hs2.out.drewN nq
          have hT4 := hT2.out.drewN nq
          have hb3 := below_drewN hb2.out nq
          have hown3 := owns_below hown2 (below_drewN (Below.refl _ _) nq)
          have hT5 : T ≤ (w2.drewN nq).heap.size := hT3
          generalize w2.drewN nq = w3 at *
          clear hs2 hb2 hT2 hown2 hT3
          go_wp2_with fail
          go_roundw
          case rel => exact ⟨i + 1, i, by go_num, by omega, by omega, hs3, by rw [hms.out, if_neg (by simp), List.append_nil]; exact hown3, hT4, hT5, hb3⟩
          case measure => simp [intOf]; omega
      | false =>
        rw [hβ] at e1 e2 e3 e4
        have e2 := Lib.hid e2
        have e4 := Lib.hid e4
        cases hμ : decide (i % m = 0) with
        | true =>
          rw [hμ] at f1 f2 f3 f4
          have f2 := Lib.hid f2
          have f4 := Lib.hid f4
          have hK : kp b m i = true := by unfold kp; rw [hβ, hμ]; rfl
          have al := span_alloc_white i _ hs hTr.out htl hnx (by omega)
          rw [kp_use] at al
          rw [hK] at hms
          have hK' := Lib.hid hK
          clear hβ hμ hK hnx
          replace hms := Lib.hid hms
          replace hTr := hTr.out
          go_wp2_with fail
          with_reducible refine Calls.mono (al) ?_
          rintro e w2 ⟨rfl, ht, hs2⟩
          have hT2 := hTr.turned ht htl
          have hown2 := owns_turned hown ht hBT
          have hT3 : T ≤ w2.heap.size := Nat.le_trans hTs ht.size
          have hb2 := ht.below hb hlo
          clear al hs hTr hown hTs hb ht
          have cm := mark_any_heap i hs2 (kp_here i)
          rw [kp_at, kp_mark hK'.out] at cm
          have c2 := hb2
          replace hs2 := Lib.hid hs2
          replace c2 := Lib.hid c2
          replace hb2 := Lib.hid hb2
          replace hT2 := Lib.hid hT2
          replace hown2 := Lib.hid hown2
          have e2 := e2.out
          have e4 := e4.out
          have f2 := f2.out
          have f4 := f4.out
          go_wp2_with fail
          go_cut [92] (fun s92 wx => s92 = .bool false ∧ Turned B.lo B.hi w2 wx ∧ IsSpan wx B 5 c n i (kpU (i + 1)) (kpV b m (i + 1)))
          case first =>
            go_region_with (go_at_call 28; ((refine Calls.mono (cm.out _ (by rfl) (by rfl) (by rfl) (by rfl)) ?_); rintro e w' ⟨rfl, hg1, hg2⟩))
            all_goals (go_wp2_with fail; go_meet; exact ⟨rfl, hg1, hg2⟩)
          case rest =>
            obtain ⟨rfl, ht, hs3⟩ := hcut
            have hT4 := hT2.out.turned ht htl
            have hown3 := owns_turned hown2.out ht hBT
            have hT5 : T ≤ wc.heap.size := Nat.le_trans hT3 ht.size
            have hb3 := ht.below hb2.out hlo
            clear cm c2 hs2 hb2 hT2 hown2 ht
            go_wp2_with fail
            go_roundw
            case rel => exact ⟨i + 1, i, by go_num, by omega, by omega, hs3, by rw [hms.out, if_neg (by simp), List.append_nil]; exact hown3, hT4, hT5, hb3⟩
            case measure => simp [intOf]; omega
        | false =>
          rw [hμ] at f1 f2 f3 f4
          have f2 := Lib.hid f2
          have f4 := Lib.hid f4
          have hK : kp b m i = false := by unfold kp; rw [hβ, hμ]; rfl
          have al := span_alloc_white i _ hs hTr.out htl hnx (by omega)
          rw [kp_use] at al
          rw [kp_not hK] at al
          rw [hK] at hms
          clear hβ hμ hK hnx
          replace hms := Lib.hid hms
          replace hTr := hTr.out
          go_wp2_with fail
          with_reducible refine Calls.mono (al) ?_
          rintro e w2 ⟨rfl, ht, hs2⟩
          have hT2 := hTr.turned ht htl
          have hown2 := owns_turned hown ht hBT
          have hT3 : T ≤ w2.heap.size := Nat.le_trans hTs ht.size
          have hb2 := ht.below hb hlo
          clear al hs hTr hown hTs hb ht
          have e2 := e2.out
          have e4 := e4.out
          have f2 := f2.out
          have f4 := f4.out
          replace hs2 := Lib.hid hs2
          replace hb2 := Lib.hid hb2
          replace hT2 := Lib.hid hT2
          go_wp2_with fail
          go_quiet (fail)
          have hs3 := hs2.out.drewN nq
          have hT4 := hT2.out.drewN nq
          have hb3 := below_drewN hb2.out nq
          have hown3 := owns_below hown2 (below_drewN (Below.refl _ _) nq)
          have hT5 : T ≤ (w2.drewN nq).heap.size := hT3
          generalize w2.drewN nq = w3 at *
          clear hs2 hb2 hT2 hown2 hT3
          go_wp2_with (at_builtin; refine wpList_append_own _ rfl _ _ 27 rfl T 3 j0 (.int .i64 0) 1 8 Tryd.underlying27 hji hz0 hz1 hz2 rfl (by decide) _ _ _ rfl (hown3.alloc _) ⟨w3.heap.size, 0, none⟩ 1 1 [.int .i64 i] rfl rfl (news_one w3 (.int .i64 i) 3) (fun x hx => by simp at hx; subst hx; rfl) (by unfold maxLen; omega) (by omega) (by simp; omega) ?_; intro v' w4 hown4 hgrow hnil; clear hnil; have hg4 := keep_append hown3 hgrow; clear hgrow; replace hown4 := Lib.hid hown4)
          have hs5 := hs3.turned hg4 (.inr hBT)
          have hT6 := hT4.turned hg4 (by omega)
          have hb4 := hg4.below hb3 hwT
          have hT7 := Nat.le_trans hT5 hg4.size
          clear hs3 hT4 hb3 hown3 hg4 hT5
          go_roundw
          case rel => exact ⟨i + 1, i, by go_num, by omega, by omega, hs5, by rw [hms.out, if_pos (by rfl), List.length_append, List.map_append]; exact hown4.out, hT6, hT7, hb4⟩
          case measure => simp [intOf]; omega
    · obtain rfl : k = i := by omega
      obtain ⟨v, rfl⟩ : ∃ v, v = u14 := ⟨_, rfl⟩
      have hsw := span_sweep _ hs hTr.out htl
      go_wp2_with fail
      with_reducible refine Calls.mono (hsw) ?_
      rintro e w2 ⟨v2, rfl, ht, hs2, hv2⟩
      have hT2 := hTr.out.turned ht htl
      have hown2 := owns_turned hown ht hBT
      have hT3 : T ≤ w2.heap.size := Nat.le_trans hTs ht.size
      have hb2 := ht.below hb hlo
      clear hsw hs hTr hown hTs hb ht hfr i1 hi
      have hG : mem (swG (kpU k) (kpV b m k)) n = mem (fun r => !kp b m r) k := mem_cut kn (fun i hi => by unfold swG kpU kpV; rw [decide_eq_true hi]; simp) fun i h1 _ => by unfold swG kpU; rw [decide_eq_false (by omega)]; rfl
      have hC : cnt (fun r => kpU k r && kpV b m k r) n + (mem (fun r => !kp b m r) k).length = k := by
        rw [mem_len, cnt_cut (N := kp b m) kn (fun i hi => by unfold kpU kpV; rw [decide_eq_true hi]; simp) fun i h1 _ => by unfold kpU; rw [decide_eq_false (by omega)]; rfl]
        exact cnt_not _ _
      rw [hG] at hv2
      have hI2 := ints_of_owns hown2
      have hs3 := hs2.of_same (U' := kpW b m k 0) (V' := fun _ => false) (fun r => by unfold kpU kpV kpW; cases decide (r < k) <;> simp) (fun _ => rfl)
      have ci := ints_any hv2 hI2
      have cl := span_live _ hs2
      have hlen : ∃ a c', v = .slice a (mem (fun r => !kp b m r) k).length c' := by
        rcases hown2.2 with ⟨rfl, h0⟩ | ⟨g, cap, cur, rfl, _⟩
        · exact ⟨none, 0, by rw [h0]⟩
        · exact ⟨_, _, rfl⟩
      obtain ⟨a', c', rfl⟩ := hlen
      have hL64 : (mem (fun r => !kp b m r) k).length ≤ k := by omega
      obtain ⟨L, hL⟩ : ∃ L, (mem (fun r => !kp b m r) k).length = L := ⟨_, rfl⟩
      obtain ⟨C, hC'⟩ : ∃ C, cnt (fun r => kpU k r && kpV b m k r) n = C := ⟨_, rfl⟩
      rw [hC'] at hC cl
      rw [hL] at hC hL64 ci ⊢
      have hC1 : (C : Int) = (k : Int) - (L : Int) := by omega
      have hL0 : (0 : Int) ≤ L := Int.natCast_nonneg L
      have hL1 : (L : Int) ≤ k := by omega
      have cl : Hid (∀ j, Calls Tryd.prog 30 #[.pointer (some ⟨B.p, 0, none⟩)] (w2.drewN j) (Ans (.int .i64 ((k : Int) - (L : Int))) (w2.drewN j))) := fun j => by
        have := span_live _ (hs2.drewN j)
        rw [hC', hC1] at this
        exact this
      clear hv2 hG hC
      replace hs2 := Lib.hid hs2
      replace hs3 := Lib.hid hs3
      replace hT2 := Lib.hid hT2
      replace hI2 := Lib.hid hI2
      replace hb2 := Lib.hid hb2
      replace hL := Lib.hid hL
      replace hC' := Lib.hid hC'
      replace hC1 := Lib.hid hC1
      clear hown2
      go_wp2_with fail
      with_reducible refine Calls.mono (ci) ?_
      rintro e w' ⟨rfl, k1, rfl⟩
      go_wp2_with fail
      with_reducible refine Calls.mono (cl.out k1) ?_
      rintro e w' ⟨rfl, k2, rfl⟩
      have hs4 := (hs3.out.drewN k1).drewN k2
      have hT4 := (hT2.out.drewN k1).drewN k2
      have hI4 := (hI2.out.below (below_drewN (Below.refl _ _) k1)).below (below_drewN (Below.refl _ _) k2)
      have hb4 := below_drewN (below_drewN hb2.out k1) k2
      have hT5 : T ≤ ((w2.drewN k1).drewN k2).heap.size := hT3
      generalize (w2.drewN k1).drewN k2 = w4 at *
      clear ci cl hs2 hs3 hT2 hT3 hI2 hb2 hC' hC1
      go_wp2_with fail
      go_loopw [18] (fun u wr => ∃ (j t fr : Nat), u = .int .i64 j ∧ j ≤ L ∧ t ≤ k ∧ Hid ((mem (fun r => !kp b m r) t).length = j) ∧ fr ≤ t ∧ IsSpan wr B 5 c n fr (kpW b m k t) (fun _ => false) ∧ Hid (IntsAt wr T (.slice a' L c') ((mem (fun r => !kp b m r) k).map fun (x : Nat) => (x : Int))) ∧ Hid (TabAt wr) ∧ Below w.heap.size w wr) (fun u _ => (L - (intOf u).toNat))
      case atStart => exact ⟨0, 0, 0, rfl, by omega, by omega, rfl, by omega, hs4, (by have h := hI4; rw [hL.out] at h; exact h), hT4, hb4⟩
      case round =>
        obtain ⟨j, t, fr, rfl, j1, tk, htj, hfr, hs, hI, hTr, hb⟩ := hrel
        clear hs4 hI4 hT4 hb4 hT5
        by_cases hj : j < L
        · obtain ⟨q, q1, q2, q3, q4, q5⟩ := mem_more (G := fun r => !kp b m r) (t := t) (k := k) (by rw [htj.out, hL.out]; exact hj)
          have hg := mem_get (G := fun r => !kp b m r) q2 q3
          rw [q5, htj.out] at hg
          obtain ⟨pb, off, ha, hcell⟩ := ints_cell hI.out (i := j) (by rw [List.length_map, hL.out]; exact hj)
          have hcq : ((mem (fun r => !kp b m r) k).map fun (x : Nat) => (x : Int)).getD j 0 = (q : Int) := by
            have := hg.1
            rw [List.getD_eq_getElem?_getD] at this ⊢
            rw [List.getElem?_map, List.getElem?_eq_getElem (by rw [hL.out]; exact hj)] at *
            simp at this ⊢
            rw [this]
          rw [hcq] at hcell
          have hpb : T ≤ pb := ints_lo hI.out ha (by rw [List.length_map, hL.out]; exact hj)
          subst ha
          have al := span_alloc_white q _ hs hTr.out htl (kpW_next kn hfr q1 q2 q3 q4) (by omega)
          rw [kpW_use q1 q2 q4] at al
          have hms : Hid ((mem (fun r => !kp b m r) (q + 1)).length = j + 1) := by
            rw [mem_succ, if_pos q3, List.length_append, q5, htj.out]; rfl
          have j2 : (j : Int) < (L : Int) := by omega
          clear hg hcq q3 q4 q5
          go_wp2_with fail
          with_reducible refine Calls.mono (al) ?_
          rintro e w5 ⟨rfl, ht, hs5⟩
          have hcell : w5.cell? ⟨pb, off + j, none⟩ = some (.int .i64 q) := ht.cell hcell (.inr (by show B.hi ≤ pb; omega))
          have hT6 := hTr.out.turned ht htl
          have hb5 := ht.below hb hlo
          have hI5 := hI.out.turned ht hBT
          clear al hs hTr hI hb ht
          go_wp2_with fail
          go_roundw
          case rel => exact ⟨j + 1, q + 1, q, by go_num, by omega, by omega, hms, by omega, hs5, hI5, hT6, hb5⟩
          case measure => simp [intOf]; omega
        · obtain rfl : L = j := by omega
          have hno := mem_same (G := fun r => !kp b m r) tk (by rw [htj.out, hL.out])
          rw [kpW_end hno] at hs
          have hs6 := hs
          have hT6 := hTr
          have hb6 := hb
          have hfk : fr ≤ k := by omega
          clear hs hTr hb hI hno htj
          go_wp2_with fail
          go_loopw [21] (fun u wr => ∃ (i fr : Nat), u = .int .i64 i ∧ k ≤ i ∧ i ≤ n ∧ fr ≤ i ∧ IsSpan wr B 5 c n fr (kpU i) (fun _ => false) ∧ Hid (TabAt wr) ∧ Below w.heap.size w wr) (fun u _ => (n - (intOf u).toNat))
          case atStart => exact ⟨k, fr, rfl, by omega, by omega, hfk, hs6, hT6, hb6⟩
          case round =>
            obtain ⟨i, fr2, rfl, i0, i1, hfr2, hs, hTr, hb⟩ := hrel
            clear hs6 hT6 hb6
            have cq := span_slots _ hs
            by_cases hi : i < n
            · have al := span_alloc_white i _ hs hTr.out htl (kp_next hfr2 hi) hi
              rw [kp_use] at al
              have i2 : (i : Int) < (n : Int) := by omega
              go_wp2_with fail
              with_reducible refine Calls.mono (cq) ?_
              rintro e w' ⟨rfl, rfl⟩
              go_wp2_with fail
              with_reducible refine Calls.mono (al) ?_
              rintro e w5 ⟨rfl, ht, hs5⟩
              have hT6 := hTr.out.turned ht htl
              have hb5 := ht.below hb hlo
              clear al cq hs hTr hb ht
              go_wp2_with fail
              go_roundw
              case rel => exact ⟨i + 1, i, by go_num, by omega, by omega, by omega, hs5, hT6, hb5⟩
              case measure => simp [intOf]; omega
            · obtain rfl : n = i := by omega
              have hno : nextI (kpU n) n fr2 false = -1 := next_not fun r _ h2 => by unfold kpU; simp [h2]
              have al := span_alloc_no true _ hs hTr.out hno
              have hcn : cnt (kpU n) n = n := cnt_all fun i hi => by unfold kpU; exact decide_eq_true hi
              replace hcn := Lib.hid hcn
              replace hno := Lib.hid hno
              go_wp2_with fail
              with_reducible refine Calls.mono (cq) ?_
              rintro e w' ⟨rfl, rfl⟩
              go_wp2_with fail
              with_reducible refine Calls.mono (al) ?_
              rintro e w' ⟨rfl, k3, rfl⟩
              have hs5 := hs.drewN k3
              have hT5 := hTr.out.drewN k3
              have hb5 := below_drewN hb k3
              generalize wr.drewN k3 = w5 at *
              clear al cq hs hTr hb
              go_wp2_with fail
              with_reducible refine Calls.mono (told6_any _ hT5) ?_
              rintro e w6 ⟨rfl, hb⟩
              have hs6 := hs5.below hb
              have hT6 := hT5.below hb
              have hb6 := below_then hb5 hb
              clear hs5 hT5 hb5 hb
              have cf := span_full _ hs6 hT6
              rw [hno.out] at cf
              go_wp2_with fail
              with_reducible refine Calls.mono (cf) ?_
              rintro e w' ⟨rfl, k4, rfl⟩
              have hs7 := hs6.drewN k4
              have hb7 := below_drewN hb6 k4
              generalize w6.drewN k4 = w7 at *
              clear cf hs6 hT6 hb6
              have cl := span_live _ hs7
              rw [hcn.out] at cl
              go_wp2_with fail
              with_reducible refine Calls.mono (cl) ?_
              rintro e w' ⟨rfl, k5, rfl⟩
              have hs8 := hs7.drewN k5
              have hb8 := below_drewN hb7 k5
              generalize w7.drewN k5 = w8 at *
              clear cl hs7 hb7
              go_wp2_with fail
              with_reducible refine Calls.mono (span_slots _ hs8) ?_
              rintro e w' ⟨rfl, rfl⟩
              go_wp2_with fail
              go_ret
              exact ⟨rfl, hb8⟩

set_option maxRecDepth 100000 in
theorem lifted (os : Os) (started : os.Started) (H : Type) (enc : TypeId × Value → H) :
    ReturnsInHanded {} Tryd.checked os 6 .any (fun w args => (Rows.spanKeepsSpec.pre enc Tryd.prog Tryd.f6 [] false w args ∧ laidMetH Tryd.prog [("math/bits.deBruijn64tab", Rows.laid_math_bits_deBruijn64tab)] w) ∧ sizedMet enc Tryd.prog Tryd.f6 (OpenSpec.ofChange Rows.spanKeepsSpec) false w args) (Rows.spanKeepsSpec.post enc Tryd.prog Tryd.f6 false true false false) := by
  refine returnsInHanded_of_change_and (C := Tryd.checked) (X := fun w _ => laidMetH Tryd.prog [("math/bits.deBruijn64tab", Rows.laid_math_bits_deBruijn64tab)] w) (fun _ _ _ hh h => h.of_heap hh) own started (by kernel_rfl) Tryd.func6
    (ChangeSpec.witness_shaped (enc := enc) (C := Tryd.checked) (os := os) (X := fun w _ => laidMetH Tryd.prog [("math/bits.deBruijn64tab", Rows.laid_math_bits_deBruijn64tab)] w) false (World.doorLaid Tryd.prog 400 os) #[.int .i64 0, .int .i64 0, .int .i64 0, .int .i64 0] 8 rfl (World.shaped_of_RefB (by kernel_rfl) (by kernel_rfl)) (by kernel_rfl) (by kernel_rfl) (by kernel_rfl) (door_met os _)) ?_
  intro W base args ds gs before hval0 hW _ _ hL _
  have hval : ∀ (j : Nat) t v, Tryd.f6.params[j]? = some t → args[j]? = some v → Value.okWide Tryd.prog W .any base t v := hval0
  have hW' := hW
  obtain ⟨p, q, hA0, hV, rfl, hfz, hnd⟩ := hW
  have hA : DataW.TrodAll enc Tryd.prog W 0 (fun _ => true) true Tryd.f6.params.toList args.toList ds p := hA0
  rw [Tryd.params6] at hA hval
  obtain ⟨v0, vs0, d0, ds0, p0, q0, hargs, rfl, rfl, h0, r0⟩ := trodAll_cons hA
  obtain ⟨v1, vs1, d1, ds1, p1, q1, rfl, rfl, rfl, h1, r1⟩ := trodAll_cons r0
  obtain ⟨v2, vs2, d2, ds2, p2, q2, rfl, rfl, rfl, h2, r2⟩ := trodAll_cons r1
  obtain ⟨v3, vs3, d3, ds3, p3, q3, rfl, rfl, rfl, h3, r3⟩ := trodAll_cons r2
  obtain ⟨rfl, rfl, rfl⟩ := trodAll_nil r3
  obtain rfl : args = #[v0, v1, v2, v3] := by cases args; simp_all
  obtain ⟨rfl, rfl⟩ := trodVars_none hV
  obtain ⟨a0, rfl, rfl, rfl, w0⟩ := open_int Tryd.underlying3 (hval 0 3 v0 rfl rfl) h0
  obtain ⟨a1, rfl, rfl, rfl, w1⟩ := open_int Tryd.underlying3 (hval 1 3 v1 rfl rfl) h1
  obtain ⟨a2, rfl, rfl, rfl, w2⟩ := open_int Tryd.underlying3 (hval 2 3 v2 rfl rfl) h2
  obtain ⟨a3, rfl, rfl, rfl, w3⟩ := open_int Tryd.underlying3 (hval 3 3 v3 rfl rfl) h3
  clear hA0 hval0
  simp only [List.append_nil] at hW'
  refine (walk a0 a1 a2 a3 W (tab_of_laid hL)).mono fun e W' ⟨he, hg⟩ => ?_
  subst he
  exact ⟨_, rfl, post_of_kept (pa := _) (pv := []) hW' (fun _ _ _ => (trodAll_cons_mk (shut_bool Tryd.underlying4 _) trodAll_mk0)) (trodAll_cons_mk (shut_int Tryd.underlying3 w0) (trodAll_cons_mk (shut_int Tryd.underlying3 w1) (trodAll_cons_mk (shut_int Tryd.underlying3 w2) (trodAll_cons_mk (shut_int Tryd.underlying3 w3) trodAll_mk0)))) (fun _ _ => rfl) (by simp) hg⟩

theorem over : Rows.spanKeepsRow.holds Tryd.pinned (OpenSpec.ofChange Rows.spanKeepsSpec) :=
  OpenClaim.holds_of_wide 6 Tryd.f6 rfl rfl rfl rfl rfl rfl rfl ⟨rfl, rfl, rfl, rfl, rfl⟩ rfl rfl rfl rfl rfl (by kernel_rfl) Tryd.func6 (by kernel_rfl)
    (of_decide_eq_true (by kernel_rfl)) (by unfold Func.isWrapper; first | (rw [if_pos (by decide +kernel)]; kernel_rfl) | (rw [if_neg (by decide +kernel)]; exact ⟨rfl, rfl⟩))
    (fun os started H enc _ => lifted os started H enc)

theorem proved : Rows.SpanKeepsCardSaid :=
  Claim7.holds_tied_plain_at .later [] [.data] true Rows.spanKeepsCard.stood.harness false
    over (fun _ h => by cases h) (by kernel_rfl) (fun _ h => by cases h) spanKeeps_row_tie rfl ⟨rfl, rfl⟩ (by kernel_rfl) rfl
    (fun f fn hf hfn => by
      obtain rfl : f = 6 := Option.some.inj ((show Tryd.prog.funcNamed "treadmill/treadmilllaw6.SpanKeeps" = some 6 by kernel_rfl).symm.trans hf) |>.symm
      obtain rfl : fn = Tryd.f6 := (Option.some.inj (Tryd.func6.symm.trans hfn)).symm
      exact ⟨by kernel_rfl, fun j t ht => by
        rw [Tryd.params6] at ht
        have hm : t ∈ [3] := by simpa using Array.mem_of_getElem? ht
        have hall : ([3].all fun u => !Tryd.prog.wantsStandIn u) = true := by kernel_rfl
        exact (show Tryd.prog.wantsStandIn t = false by simpa using List.all_eq_true.1 hall t hm)⟩)
    (by kernel_rfl)
#print axioms proved
end Go.Proofs.YtoamabmnbldgkaaDoor.spanKeeps
