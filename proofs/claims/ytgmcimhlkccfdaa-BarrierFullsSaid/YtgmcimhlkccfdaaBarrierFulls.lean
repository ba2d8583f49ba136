/- Sixteen pairs are noted, one more is not; flushed, sixteen more are: any number of pairs (1 to 60) of numbers of their own. No condition. -/
import Derived.Test.YtgmcimhlkccfdaaBarMore
import Derived.WalkKit
import Derived.ProofKit
import Derived.OpenShut
import Derived.Deep.RegionHeld3
import Derived.Deep.RegionWith
import Derived.Deep.Cut
import Derived.Deep.CutBlock
import Derived.Deep.CutRange
import Derived.Deep.DeepCutAuto
import Derived.RegionTactic
namespace Go.Proofs.Ytgmcimhlkccfdaa.barrierFulls
open Go.ChangeShapes Go.WideShapes Go.ChangeAt Go.WideElems Go.RowKit Go.Lib Fx Ho Ba Qu Rw
set_option linter.unusedVariables false

theorem own : ownKnob Try.prog.godebug = none := by kernel_rfl

/-- d pairs from the one of number s on. -/
def prs (s : Nat) : Nat → Pairs
  | 0 => []
  | d + 1 => prs s d ++ [(2 * ((s + d : Nat) : Int) + 1, 2 * ((s + d : Nat) : Int) + 2)]
theorem prs_len (s : Nat) : ∀ d, (prs s d).length = d
  | 0 => rfl
  | d + 1 => by show (prs s d ++ _).length = _; rw [List.length_append, prs_len s d]; rfl
theorem seq_mem (c : Int) : ∀ (n : Nat) (x : Int), x ∈ seqI c n → x < c + n
  | 0, x, h => by cases h
  | n + 1, x, h => by
    have h : x ∈ seqI c n ++ [c + (n : Int)] := h
    rcases List.mem_append.1 h with h | h
    · have := seq_mem c n x h; omega
    · obtain rfl : x = c + (n : Int) := by simpa using h
      omega
theorem addN_seq (c : Int) (n : Nat) (hc : 0 < c) : addN (seqI c n) (c + n) = seqI c (n + 1) := by
  unfold addN
  rw [if_neg (fun h => h.elim (fun h => by omega) (fun h => by have := seq_mem c n _ h; omega))]; rfl
theorem names_prs (s : Nat) : ∀ d, names (prs s d) = seqI (2 * (s : Int) + 1) (2 * d)
  | 0 => rfl
  | d + 1 => by
    have h := names_prs s d
    unfold names at h ⊢
    show ((prs s d ++ [(2 * ((s + d : Nat) : Int) + 1, 2 * ((s + d : Nat) : Int) + 2)]).foldl _ []) = _
    rw [List.foldl_append, h]
    show addN (addN (seqI (2 * (s : Int) + 1) (2 * d)) (2 * ((s + d : Nat) : Int) + 1)) (2 * ((s + d : Nat) : Int) + 2) = _
    rw [show 2 * ((s + d : Nat) : Int) + 1 = (2 * (s : Int) + 1) + ((2 * d : Nat) : Int) by omega, addN_seq _ _ (by omega), show 2 * ((s + d : Nat) : Int) + 2 = (2 * (s : Int) + 1) + ((2 * d + 1 : Nat) : Int) by omega, addN_seq _ _ (by omega), show 2 * (d + 1) = 2 * d + 1 + 1 by omega]
/-- All that was flushed. -/
def gots : Nat → List Int
  | 0 => []
  | c + 1 => gots c ++ seqI (2 * ((17 * c : Nat) : Int) + 1) (2 * 16)
theorem gots_len : ∀ c, (gots c).length = 32 * c
  | 0 => rfl
  | c + 1 => by show (gots c ++ _).length = _; rw [List.length_append, gots_len c, seq_len]; omega
theorem gots_at : ∀ (c i : Nat), i < 32 * c → (gots c).getD i 0 = 34 * ((i / 32 : Nat) : Int) + 1 + ((i % 32 : Nat) : Int)
  | 0, i, h => by omega
  | c + 1, i, h => by
    show (gots c ++ _).getD i 0 = _
    by_cases e : i < 32 * c
    · rw [gd_left (by rw [gots_len]; exact e), gots_at c i e]
    · rw [gd_right (by rw [gots_len]; omega), gots_len, seq_get _ _ _ (by omega)]
      omega
set_option maxRecDepth 100000 in
set_option maxHeartbeats 4000000 in
theorem walk (a0 : Int) (w : World) (w0 : (Lit.int .i64 a0).wf = true) :
    Calls Try.prog 8 #[.int .i64 a0] w fun e w' => e = .returned (.bool true) ∧ Below w.heap.size w w' := by
  have ct := fun w => Ba.told_any w
  have cn := bb_new w
  obtain ⟨p, hp⟩ : ∃ p, w.heap.size = p := ⟨_, rfl⟩
  rw [hp] at cn
  clear hp
  obtain ⟨Z, hZ⟩ : ∃ Z : Int, IntKind.u64.wrap a0 = Z := ⟨_, rfl⟩
  have z1 : 0 ≤ Z := by rw [← hZ, IntKind.wrap_u64]; omega
  obtain ⟨m, hm⟩ : ∃ m : Nat, Z % 60 = (m : Int) := ⟨(Z % 60).toNat, by omega⟩
  have m1 : m ≤ 59 := by omega
  go_enter Try.func8, Try.ntmps8
  go_wp2_with fail
  with_reducible refine Calls.mono (cn) ?_
  rintro e w1 ⟨rfl, hs1⟩
  have hlt := hs1.b.lt
  replace hs1 := Lib.hid hs1
  clear cn
  go_wp2_with fail
  obtain ⟨k, hk⟩ : ∃ k : Nat, 1 + (m : Int) = (k : Int) := ⟨1 + m, by omega⟩
  have k1 : k ≤ 60 := by omega
  rw [hk]
  clear hZ z1 hm hk m1
  go_loopw [5, 6, 7, 8] (fun v i o f wr => ∃ (s : Option Addr) (cap c d : Nat), v = .slice s (32 * c) cap ∧ i = .int .i64 ((17 * c + d : Nat) : Int) ∧ d ≤ 16 ∧ 17 * c + d ≤ k ∧ p < wr.heap.size ∧ Hid (Bb w wr p (prs (17 * c) d)) ∧ Hid (OffRow wr (.slice s (32 * c) cap) (gots c)) ∧ Hid (Low (p + 1) (fun k => (Value.slice s (32 * c) cap).ownBlock = some k))) (fun _ i _ _ _ => (k - (RowKit.intOf i).toNat))
  case atStart => exact ⟨none, 0, 0, 0, rfl, rfl, by omega, by omega, hlt, hs1, Lib.hid (offrow_nil _), Lib.hid (low_nil _)⟩
  case round =>
    obtain ⟨s, cap, c, d, rfl, rfl, d1, j1, hlt2, hS, hR, hLo⟩ := hrel
    clear hs1 hlt
    obtain ⟨i, hi⟩ : ∃ i, 17 * c + d = i := ⟨_, rfl⟩
    have hih := Lib.hid hi
    rw [hi] at j1 ⊢
    by_cases hj : i < k
    · have i2 : (i : Int) < (k : Int) := by omega
      have i0 : (0 : Int) ≤ (i : Int) := by omega
      have i3 : (i : Int) ≤ 60 := by omega
      by_cases hd : d < 16
      · have e1 : (i : Int) % 17 = (d : Int) := by omega
        have e2 : ((i : Int) + 1) % 17 = (d : Int) + 1 := by omega
        have hd2 : ((d : Int) == 16) = false := by rw [beq_eq_false_iff_ne]; omega
        have cp := put_room (2 * (i : Int) + 1) (2 * (i : Int) + 2) (by omega) (by rw [prs_len]; exact hd) hS.out.b
        have hnx : Hid (∀ w2, Wrote (Ba.at_ p) wr (Ba.at_ p) w2 → IsBar w2 p (prs (17 * c) d ++ [(2 * (i : Int) + 1, 2 * (i : Int) + 2)]) → p < w2.heap.size ∧ Hid (Bb w w2 p (prs (17 * c) (d + 1))) ∧ Hid (OffRow w2 (.slice s (32 * c) cap) (gots c)) ∧ Calls Try.prog 30 #[.pointer (some ⟨p, 0, none⟩)] w2 (Still (.int .i64 ((d : Int) + 1)) w2)) := fun w2 h1 h2 => by
          rw [← hi] at h2
          refine ⟨h2.lt, hS.out.turns h1 h2, hR.out.wrote h1 (fun k hk e => by have := hLo.out k hk; have e : k = p := e; omega), ?_⟩
          have := Ba.len_any h2
          rw [List.length_append, prs_len] at this
          exact this
        clear hS hR hi
        go_wp2_with fail
        with_reducible refine Calls.mono (cp) ?_
        rintro e w2 ⟨rfl, h1, h2⟩
        have hn2 := hnx.out w2 h1 h2
        obtain ⟨hlt3, hS2, hR2, cl⟩ := hn2
        clear cp hnx h1 h2
        go_wp2_with fail
        with_reducible refine Calls.mono (cl) ?_
        rintro e w3 ⟨rfl, rfl⟩
        clear cl
        go_wp2_with fail
        go_roundw
        case rel => exact ⟨s, cap, c, d + 1, rfl, by have := hih.out; rw [show ((17 * c + (d + 1) : Nat) : Int) = (i : Int) + 1 by omega], by omega, by have := hih.out; omega, hlt3, hS2, hR2, hLo⟩
        case measure => simp [RowKit.intOf]; omega
      · obtain rfl : d = 16 := by omega
        have e1 : (i : Int) % 17 = 16 := by omega
        have e2 : ((i : Int) + 1) % 17 = 0 := by omega
        have cp := put_full (2 * (i : Int) + 1) (2 * (i : Int) + 2) (prs_len _ _) hS.out.b
        have cf := bb_flush hS.out
        have hnx : Hid (∀ (w2 : World) (v2 : Value), Bb w w2 p [] → OffRow w2 v2 (names (prs (17 * c) 16)) → Wrote (Ba.at_ p) wr (Ba.at_ p) w2 → (∃ s2 c2, v2 = .slice s2 32 c2) ∧ p + 1 ≤ w2.heap.size ∧ Hid (OffRow w2 (.slice s (32 * c) cap) (gots c)) ∧ Hid (Src Try.prog 1 26 v2 (names (prs (17 * c) 16)).length (cells (names (prs (17 * c) 16))) w2) ∧ Calls Try.prog 30 #[.pointer (some ⟨p, 0, none⟩)] w2 (Still (.int .i64 0) w2) ∧
            Hid (∀ (w3 : World) (v3 : Value), OffRow w3 v3 (gots c ++ names (prs (17 * c) 16)) → Low (p + 1) (fun k => v3.ownBlock = some k) → Below (p + 1) w2 w3 → (∃ s3 c3, v3 = .slice s3 (32 * (c + 1)) c3) ∧ p < w3.heap.size ∧ Hid (Bb w w3 p (prs (17 * (c + 1)) 0)) ∧ Hid (OffRow w3 v3 (gots (c + 1))) ∧ Calls Try.prog 30 #[.pointer (some ⟨p, 0, none⟩)] w3 (Still (.int .i64 0) w3))) := fun w2 v2 h1 h2 h3 => by
          have hr : gots c ++ names (prs (17 * c) 16) = gots (c + 1) := by rw [names_prs]; rfl
          have hl2 : (names (prs (17 * c) 16)).length = 32 := by rw [names_prs, seq_len]
          refine ⟨off_slice h2 hl2, h1.b.lt, hR.out.wrote h3 (fun k hk e => by have := hLo.out k hk; have e : k = p := e; omega), src_of_ints h2.ints, Ba.len_any h1.b, fun w3 v3 g1 g2 g3 => ?_⟩
          rw [hr] at g1
          have hb3 := h1.above g3 (Nat.lt_succ_self p)
          exact ⟨off_slice g1 (gots_len _), hb3.b.lt, hb3, g1, Ba.len_any hb3.b⟩
        have hbd : (gots c).length + (names (prs (17 * c) 16)).length ≤ 1000000 := by rw [gots_len, names_prs, seq_len]; omega
        have hci : Hid (17 * c + 16 = i) := hi
        obtain ⟨N, hN⟩ : ∃ N, names (prs (17 * c) 16) = N := ⟨_, rfl⟩
        rw [hN] at cf hnx hbd
        clear hS hR hi hN
        go_wp2_with fail
        with_reducible refine Calls.mono (cp) ?_
        rintro e w2 ⟨rfl, rfl⟩
        clear cp
        go_wp2_with fail
        with_reducible refine Calls.mono (cf) ?_
        rintro e w2 ⟨v2, rfl, h1, h2, _, h3⟩
        have hn2 := hnx.out w2 v2 h1 h2 h3
        obtain ⟨⟨s2, c2, rfl⟩, hlo2, hR2, hsrc, cl, hnx2⟩ := hn2
        clear cf hnx h1 h2 h3
        go_wp2_with fail
        with_reducible refine Calls.mono (cl) ?_
        rintro e w3 ⟨rfl, rfl⟩
        clear cl
        go_wp2_with (at_builtin; refine wpList_append_low rfl (.tmp 49) (.tmp 50) rfl rfl (p + 1) hR2.out hLo.out hlo2 rfl rfl hsrc.out hbd ?_; intro v3 w3 g1 g2 g3; have hk := hnx2.out w3 v3 g1 g2 g3; obtain ⟨⟨s3, c3, rfl⟩, hlt3, hS3, hR3, cl3⟩ := hk; replace g2 := Lib.hid g2; clear g1 g3 hnx2 hR2 hLo hsrc)
        with_reducible refine Calls.mono cl3 ?_
        rintro e w4 ⟨rfl, rfl⟩
        clear cl3
        go_wp2_with fail
        go_roundw
        case rel => exact ⟨s3, c3, c + 1, 0, rfl, by have := hci.out; rw [show ((17 * (c + 1) + 0 : Nat) : Int) = (i : Int) + 1 by omega], by omega, by have := hci.out; omega, hlt3, hS3, hR3, g2⟩
        case measure => simp [RowKit.intOf]; omega
    · obtain rfl : i = k := by omega
      have hlen : Hid ((gots c).length = 32 * c) := gots_len c
      have hcells : Hid (∀ W, Below wr.heap.size wr W → ∀ j, j < 32 * c → ∃ b off, s = some ⟨b, off, none⟩ ∧ W.cell? ⟨b, off + j, none⟩ = some (.int .i64 (34 * ((j / 32 : Nat) : Int) + 1 + ((j % 32 : Nat) : Int)))) := fun W hb j hj => by
        obtain ⟨sp', cap', e, _, hc⟩ := hR.out.ints
        obtain ⟨b, off, e2, _, _, k1⟩ := hc j (by rw [gots_len]; exact hj)
        rw [gots_at c j hj] at k1
        injection e with e1
        exact ⟨b, off, by rw [e1]; exact e2, cell_then hb k1⟩
      have hBel := Lib.hid hS.out.bel
      have hc4 : 32 * c ≤ 128 := by omega
      clear hS hR hLo hlen
      obtain ⟨t, ht⟩ : ∃ t, 32 * c = t := ⟨_, rfl⟩
      rw [ht] at hcells hc4 ⊢
      clear ht hi hih
      go_wp2_with fail
      go_loopw [10] (fun i wr2 => ∃ j : Nat, i = .int .i64 j ∧ 1 ≤ j ∧ (j ≤ t ∨ j = 1) ∧ Hid (Below wr.heap.size wr wr2)) (fun i _ => (t + 1 - (RowKit.intOf i).toNat))
      case atStart => exact ⟨1, rfl, by omega, by omega, Lib.hid (Below.refl _ _)⟩
      case round =>
        obtain ⟨j, rfl, j2, j3, hb2⟩ := hrel
        by_cases hjt : j < t
        · have i4 : (j : Int) < (t : Int) := by omega
          have i5 : (0 : Int) ≤ (j : Int) := by omega
          obtain ⟨u, rfl⟩ : ∃ u, j = u + 1 := ⟨j - 1, by omega⟩
          obtain ⟨b, off, rfl, q1⟩ := hcells.out _ hb2.out (u + 1) hjt
          obtain ⟨b', off', e, q2⟩ := hcells.out _ hb2.out u (by omega)
          cases e
          obtain ⟨X, hX⟩ : ∃ X : Int, 34 * (((u + 1) / 32 : Nat) : Int) + 1 + (((u + 1) % 32 : Nat) : Int) = X := ⟨_, rfl⟩
          obtain ⟨Y, hY⟩ : ∃ Y : Int, 34 * ((u / 32 : Nat) : Int) + 1 + ((u % 32 : Nat) : Int) = Y := ⟨_, rfl⟩
          have hlt : ¬ (X ≤ Y) := by omega
          have hd : decide (X ≤ Y) = false := decide_eq_false hlt
          rw [hX] at q1
          rw [hY] at q2
          clear hX hY
          have ew : IntKind.i64.wrap (((u + 1 : Nat) : Int) - 1) = (u : Int) := by rw [IntKind.wrap_i64]; omega
          have e3 : ((u + 1 : Nat) : Int) - 1 = (u : Int) := by omega
          have u0 : (0 : Int) ≤ (u : Int) := by omega
          have u1 : (u : Int) < (t : Int) := by omega
          go_wp2_with fail
          go_quiet (fail)
          go_wp2_with fail
          go_roundw
          case rel => exact ⟨u + 1 + 1, by go_num, by omega, by omega, Lib.hid (below_drewN hb2.out _)⟩
          case measure => simp [RowKit.intOf]; omega
        · have i4 : ¬ ((j : Int) < (t : Int)) := by omega
          have hB := Lib.hid (hBel.out.trans (hb2.out.mono hBel.out.size))
          clear hb2 hcells hBel
          go_wp2_with fail
          with_reducible refine Calls.mono (ct _) ?_
          rintro e w4 ⟨rfl, hb4⟩
          have hB4 := Lib.hid (hB.out.trans (hb4.mono hB.out.size))
          clear hB hb4
          go_wp2_with fail
          with_reducible refine Calls.mono (flush_nil _) ?_
          rintro e w5 ⟨rfl, rfl⟩
          go_wp2_with fail
          with_reducible refine Calls.mono (Ba.len_nil _) ?_
          rintro e w5 ⟨rfl, rfl⟩
          go_wp2_with fail
          with_reducible refine Calls.mono (flush_nil _) ?_
          rintro e w5 ⟨rfl, rfl⟩
          go_wp2_with fail
          with_reducible refine Calls.mono (ints_any (ints_nil w4 (fun _ => True)) (ints_nil w4 (fun _ => True))) ?_
          rintro e w5 ⟨rfl, q, rfl⟩
          have hB5 := Lib.hid (below_drewN hB4.out q)
          go_wp2_with fail
          go_ret
          exact ⟨rfl, hB5.out⟩

set_option maxRecDepth 100000 in
theorem lifted (os : Os) (started : os.Started) (H : Type) (enc : TypeId × Value → H) :
    ReturnsInHanded {} Try.checked os 8 .any (Rows.barrierFullsSpec.pre6 enc Try.prog Try.f8 Rows.barrierFullsRow.domain false) (Rows.barrierFullsSpec.post enc Try.prog Try.f8 false true false false) := by
  refine returnsInHanded_of_change (C := Try.checked) own started (by kernel_rfl) Try.func8
    (ChangeSpec.witness6 (enc := enc) (C := Try.checked) false ⟨#[], #[.int .i64 0], []⟩ 8 (by kernel_rfl) (by kernel_rfl) (by kernel_rfl) (by kernel_rfl)) ?_
  intro W base args ds gs before hval0 hW hcnd _
  have hval : ∀ (j : Nat) t v, Try.f8.params[j]? = some t → args[j]? = some v → Value.okWide Try.prog W .any base t v := hval0
  have hW' := hW
  obtain ⟨p, q, hA0, hV, rfl, hfz, hnd⟩ := hW
  have hA : DataW.TrodAll enc Try.prog W 0 (fun _ => true) true Try.f8.params.toList args.toList ds p := hA0
  rw [Try.params8] at hA hval
  obtain ⟨v0, vs0, d0, ds0, p0, q0, hargs, rfl, rfl, h0, r0⟩ := trodAll_cons hA
  obtain ⟨rfl, rfl, rfl⟩ := trodAll_nil r0
  obtain rfl : args = #[v0] := by cases args; simp_all
  obtain ⟨rfl, rfl⟩ := trodVars_none hV
  obtain ⟨a0, rfl, rfl, rfl, w0⟩ := open_int Try.underlying3 (hval 0 3 v0 rfl rfl) h0
  clear hA0 hval0
  simp only [List.append_nil] at hW'
  refine (walk a0 W w0).mono fun e W' ⟨he, hg⟩ => ?_
  subst he
  exact ⟨_, rfl, post_of_kept (pa := _) (pv := []) hW' (fun _ _ _ => (trodAll_cons_mk (shut_bool Try.underlying4 _) trodAll_mk0)) (trodAll_cons_mk (shut_int Try.underlying3 w0) trodAll_mk0) (fun _ _ => rfl) (by simp) hg⟩

theorem over : Rows.barrierFullsRow.holds Try.pinned (OpenSpec.ofChange Rows.barrierFullsSpec) :=
  OpenClaim.holds_of_wide 8 Try.f8 rfl rfl rfl rfl rfl rfl rfl ⟨rfl, rfl, rfl, rfl, rfl⟩ rfl rfl rfl rfl rfl (by kernel_rfl) Try.func8 (by kernel_rfl)
    (of_decide_eq_true (by kernel_rfl)) (by unfold Func.isWrapper; first | (rw [if_pos (by decide +kernel)]; kernel_rfl) | (rw [if_neg (by decide +kernel)]; exact ⟨rfl, rfl⟩))
    (fun os started H enc _ => lifted os started H enc)

theorem proved : Rows.BarrierFullsSaid :=
  over
#print axioms proved
end Go.Proofs.Ytgmcimhlkccfdaa.barrierFulls
