/- For any two whole numbers the statement RootsAdds answers true and leaves its arguments as they were: a stack that is to be looked at already is not twice; one whose job was taken is again. No condition. -/
import Derived.Test.YtkpmifkdnndccaaHome
import Derived.Test.YtkpmifkdnndccaaRootsTold
import Derived.WalkKit
import Derived.ProofKit
import Derived.OpenShut
import Derived.Deep.RegionHeld3
import Derived.Deep.RegionWith
import Derived.Deep.Cut
import Derived.Deep.CutBlock
import Derived.Deep.CutRange
import Derived.Deep.LoopGhost
import Derived.Deep.DeepCutAuto
import Derived.RegionTactic
import Derived.StillTailTactics
namespace Go.Proofs.Ytkpmifkdnndccaa.rootsAdds
open Go.ChangeShapes Go.WideShapes Go.ChangeAt Go.WideElems Go.RowKit Go.Lib Fx Ho Ro Rw Qu
set_option linter.unusedVariables false

theorem own : ownKnob Try.prog.godebug = none := by kernel_rfl

/-- n numbers that rise by one, from c on, the first ahead. -/
def upI (c : Int) : Nat → List Int
  | 0 => []
  | n + 1 => c :: upI (c + 1) n
theorem up_app (c : Int) : ∀ n, upI c (n + 1) = upI c n ++ [c + (n : Int)]
  | 0 => by simp [upI]
  | n + 1 => by
    have h := up_app (c + 1) n
    show c :: upI (c + 1) (n + 1) = (c :: upI (c + 1) n) ++ _
    rw [h, List.cons_append, show c + 1 + (n : Int) = c + ((n + 1 : Nat) : Int) by omega]
theorem seq_up (c : Int) : ∀ n, seqI c n = upI c n
  | 0 => rfl
  | n + 1 => by rw [up_app, ← seq_up c n]; rfl
theorem up_len (c : Int) (n : Nat) : (upI c n).length = n := by rw [← seq_up, seq_len]
theorem gj0 : gjobs 0 = [] := by decide
theorem up_mem {c : Int} : ∀ {n : Nat} {g : Int}, c ≤ g → g < c + n → g ∈ upI c n
  | 0, g, h1, h2 => by omega
  | n + 1, g, h1, h2 => by
    show g ∈ c :: upI (c + 1) n
    by_cases e : g = c
    · subst e; exact List.mem_cons_self ..
    · exact List.mem_cons_of_mem _ (up_mem (by omega) (by omega))
theorem up_not {c : Int} : ∀ {n : Nat} {g : Int}, g ∈ upI c n → c ≤ g ∧ g < c + n
  | 0, g, h => by cases h
  | n + 1, g, h => by
    rcases List.mem_cons.1 h with h | h
    · omega
    · have := up_not h; omega
set_option maxRecDepth 100000 in
set_option maxHeartbeats 4000000 in
theorem walk (a0 : Int) (a1 : Int) (w : World) (w0 : (Lit.int .i64 a0).wf = true) (w1 : (Lit.int .i64 a1).wf = true) :
    Calls Try.prog 5 #[.int .i64 a0, .int .i64 a1] w fun e w' => e = .returned (.bool true) ∧ Below w.heap.size w w' := by
  obtain ⟨Z, hZ⟩ : ∃ Z : Int, IntKind.u64.wrap a0 = Z := ⟨_, rfl⟩
  obtain ⟨Y, hY⟩ : ∃ Y : Int, IntKind.u64.wrap a1 = Y := ⟨_, rfl⟩
  have z1 : 0 ≤ Z := by rw [← hZ, IntKind.wrap_u64]; omega
  have y1 : 0 ≤ Y := by rw [← hY, IntKind.wrap_u64]; omega
  obtain ⟨k, hk⟩ : ∃ k : Nat, 1 + Z % 30 = (k : Int) := ⟨(1 + Z % 30).toNat, by omega⟩
  have k0 : 1 ≤ k := by omega
  have k1 : k ≤ 30 := by omega
  have hu : IntKind.u64.wrap (k : Int) = (k : Int) := by rw [IntKind.wrap_u64]; omega
  obtain ⟨g, hg⟩ : ∃ g : Nat, Y % (k : Int) = (g : Int) := ⟨(Y % (k : Int)).toNat, by have := Int.emod_nonneg Y (by omega : (k : Int) ≠ 0); omega⟩
  have g1 : g < k := by have := Int.emod_lt_of_pos Y (by omega : (0 : Int) < (k : Int)); omega
  have hg2 := Lib.hid hg
  clear hg
  go_enter Try.func5, Try.ntmps5
  go_wp2_with fail
  clear hZ z1 hk
  go_loopw [6, 7] (fun v y wr => ∃ (s : Option Addr) (cap i : Nat), v = .slice s i cap ∧ y = .int .i64 i ∧ i ≤ k ∧ Hid (Below w.heap.size w wr) ∧ Hid (OffRow wr (.slice s i cap) (seqI 0 i)) ∧ Hid (Low w.heap.size (fun k => (Value.slice s i cap).ownBlock = some k))) (fun _ y _ => (k - (RowKit.intOf y).toNat))
  case atStart => exact ⟨none, 0, 0, rfl, rfl, by omega, Lib.hid (Below.refl _ _), Lib.hid (offrow_nil _), Lib.hid (low_nil _)⟩
  case round =>
    obtain ⟨s, cap, i, rfl, rfl, i1, hB, hR, hL⟩ := hrel
    by_cases hi : i < k
    · have i2 : (i : Int) < (k : Int) := by omega
      have hsrc := Lib.hid (src_one wr (i : Int))
      have hb1 : Below wr.heap.size wr (wr.alloc (.cells #[.int .i64 i] 3)) := below_alloc (Below.refl _ _) _
      have hR2 := Lib.hid (off_below hR.out hb1)
      have hsz := Nat.le_trans hB.out.size hb1.size
      have hbd : (seqI 0 i).length + [(i : Int)].length ≤ 1000000 := by rw [seq_len]; simp; omega
      have hnx : Hid (∀ (w2 : World) (v2 : Value), OffRow w2 v2 (seqI 0 i ++ [(i : Int)]) → Below w.heap.size (wr.alloc (.cells #[.int .i64 i] 3)) w2 → (∃ s2 c2, v2 = .slice s2 (i + 1) c2) ∧ Hid (Below w.heap.size w w2) ∧ Hid (OffRow w2 v2 (seqI 0 (i + 1)))) := Lib.hid fun w2 v2 q1 q2 => by
        rw [show seqI 0 i ++ [(i : Int)] = seqI 0 (i + 1) by show _ = seqI 0 i ++ [0 + (i : Int)]; rw [Int.zero_add]] at q1
        exact ⟨off_slice q1 (seq_len _ _), Lib.hid ((hB.out.trans (hb1.mono hB.out.size)).trans q2), Lib.hid q1⟩
      have hl1 : (seqI 0 i).length = i := seq_len _ _
      have hR3 : Hid (OffRow (wr.alloc (.cells #[.int .i64 i] 3)) (.slice s i cap) (seqI 0 i)) := hR2
      clear hR hB hb1 hR2
      go_wp2_with (at_builtin; refine wpList_append_low rfl (.tmp 30) (.tmp 32) rfl rfl w.heap.size hR3.out hL.out hsz rfl rfl hsrc.out hbd ?_; intro v3 w3 q1 q2 q3; have hk := hnx.out w3 v3 q1 q3; obtain ⟨⟨s3, c3, rfl⟩, hB, hR⟩ := hk; replace q2 := Lib.hid q2; clear q1 q3 hnx hR3 hL hsrc)
      go_roundw
      case rel => exact ⟨s3, c3, i + 1, rfl, by go_num, by omega, hB, hR, q2⟩
      case measure => simp [RowKit.intOf]; omega
    · obtain rfl : i = k := by omega
      have i2 : ¬ ((i : Int) < (i : Int)) := by omega
      have cn := new_sro (w := wr) (n := 0) (t := 0) hR.out.ints (by rw [seq_len]; omega) (by omega) (by omega)
      rw [gj0, seq_up] at cn
      replace hB := hB.out
      clear hR hL
      have hg2 := hg2
      go_wp2_with fail
      with_reducible refine Calls.mono cn ?_
      rintro e w2 ⟨p, H, rfl, hp, hs⟩
      clear cn
      have cl := hs.left (by rw [up_len]; omega)
      rw [up_len] at cl
      replace hs := Lib.hid hs
      have k1 : ((0 + i : Nat) : Int) = (i : Int) := by omega
      rw [show ([] : List Job).length = 0 from rfl, k1] at cl
      go_wp2_with fail
      with_reducible refine Calls.mono (cl) ?_
      rintro e w3 ⟨rfl, m, rfl⟩
      have hs := hs.out.below (below_drewN (Below.refl _ _) m)
      clear cl k1
      generalize w2.drewN m = w2 at *
      have ca := hs.add (g : Int) (by rw [up_len]; omega)
      rw [if_pos (up_mem (by omega) (by omega))] at ca
      clear hs
      have hgo := hg2.out
      go_wp2_with fail
      rw [hgo]
      with_reducible refine Calls.mono (ca) ?_
      rintro e w3 ⟨rfl, H3, -, hs⟩
      clear ca hgo
      have cl := hs.left (by rw [up_len]; omega)
      rw [up_len] at cl
      replace hs := Lib.hid hs
      have k1 : ((0 + i : Nat) : Int) = (i : Int) := by omega
      rw [show ([] : List Job).length = 0 from rfl, k1] at cl
      go_wp2_with fail
      with_reducible refine Calls.mono (cl) ?_
      rintro e w4 ⟨rfl, m, rfl⟩
      have hs := hs.out.below (below_drewN (Below.refl _ _) m)
      clear cl k1
      generalize w3.drewN m = w3 at *
      have ca := hs.add ((i : Int) + 3) (by rw [up_len]; omega)
      rw [if_neg (fun e => by have := up_not e; omega)] at ca
      clear hs
      go_wp2_with fail
      with_reducible refine Calls.mono (ca) ?_
      rintro e w4 ⟨rfl, H4, -, hs⟩
      clear ca
      have cl := hs.left (by simp [up_len]; omega)
      have k1 : ((([] : List Job).length + (upI 0 i ++ [(i : Int) + 3]).length : Nat) : Int) = (i : Int) + 1 := by simp [up_len]
      rw [k1] at cl
      replace hs := Lib.hid hs
      clear k1
      go_wp2_with fail
      with_reducible refine Calls.mono (cl) ?_
      rintro e w5 ⟨rfl, m, rfl⟩
      have hs := Lib.hid (hs.out.below (below_drewN (Below.refl _ _) m))
      clear cl
      generalize w4.drewN m = w4 at *
      go_wp2_with fail
      generalize wr = W1 at *
      go_loopw [10] (fun x wq => ∃ (b : Nat) (H : Home), x = .int .i64 b ∧ b ≤ g + 1 ∧ Hid (Sro W1 wq p H [] (upI b (i - b) ++ [(i : Int) + 3]))) (fun x _ => (g + 1 - (RowKit.intOf x).toNat))
      case atStart => exact ⟨0, H4, rfl, by omega, hs⟩
      case round =>
        obtain ⟨b, H, rfl, b1, hs⟩ := hrel
        by_cases hb : b ≤ g
        · obtain ⟨r, hr⟩ : ∃ r, i - b = r + 1 := ⟨i - b - 1, by omega⟩
          rw [hr] at hs
          have cx : Calls Try.prog 19 #[.pointer (some ⟨p, 0, none⟩)] wr fun e W' => e = .returned (.tuple #[jv (b, 0, 16), .bool true]) ∧ ∃ H', Wrote H wr H' W' ∧ Sro W1 W' p H' [] (upI ((b : Int) + 1) r ++ [(i : Int) + 3]) := hs.out.next
          clear hs
          have b2 : (b : Int) ≤ (g : Int) := by omega
          go_wp2_with fail
          with_reducible refine Calls.mono (cx) ?_
          rintro e w6 ⟨rfl, H6, -, hs⟩
          have hs := Lib.hid (hs.below (below_alloc (Below.refl _ w6) (box3 b 0 16)))
          obtain ⟨x0, x1, x2⟩ := box_cells (heap_alloc_new w6 (box3 b 0 16))
          clear cx
          go_wp2_with fail
          go_roundw
          case rel => exact ⟨b + 1, H6, by go_num, by omega, by have := hs.out; rw [show i - (b + 1) = r by omega, show ((b + 1 : Nat) : Int) = (b : Int) + 1 by omega]; exact Lib.hid this⟩
          case measure => simp [RowKit.intOf]; omega
        · obtain rfl : b = g + 1 := by omega
          have b2 : ¬ (((g + 1 : Nat) : Int) ≤ (g : Int)) := by omega
          have ca := hs.out.add (g : Int) (by simp [up_len]; omega)
          rw [if_neg (fun e => by rcases List.mem_append.1 e with e | e; have := up_not e; omega; simp at e; omega)] at ca
          clear hs
          go_wp2_with fail
          with_reducible refine Calls.mono (ca) ?_
          rintro e w6 ⟨rfl, H6, -, hs⟩
          clear ca
          have cl := hs.left (by simp [up_len]; omega)
          have k2 : ((([] : List Job).length + (upI ((g + 1 : Nat) : Int) (i - (g + 1)) ++ [(i : Int) + 3] ++ [(g : Int)]).length : Nat) : Int) = (i : Int) - (g : Int) - 1 + 2 := by simp [up_len]; omega
          rw [k2] at cl
          clear k2
          replace hs := Lib.hid hs
          go_wp2_with fail
          with_reducible refine Calls.mono (cl) ?_
          rintro e w7 ⟨rfl, m, rfl⟩
          have hs := hs.out.below (below_drewN (Below.refl _ _) m)
          clear cl
          generalize w6.drewN m = w6 at *
          have hL : ∃ T : List Int, upI ((g + 1 : Nat) : Int) (i - (g + 1)) ++ [(i : Int) + 3] ++ [(g : Int)] = T ++ [(g : Int)] ∧ T.length ≤ 100 := ⟨_, rfl, by simp [up_len]; omega⟩
          obtain ⟨T0, hT, hT2⟩ := hL
          rw [hT] at hs
          replace hs := Lib.hid hs
          clear hT
          go_wp2_with fail
          obtain ⟨W2, rfl⟩ : ∃ W2 : World, W2 = wr := ⟨_, rfl⟩
          obtain ⟨n0, hn0⟩ : ∃ n0, (T0 ++ [(g : Int)]).length = n0 := ⟨_, rfl⟩
          have hn1 : n0 ≤ 101 := by simp at hn0; omega
          have hst : Hid (Hid ((∃ T, T0 ++ [(g : Int)] = T ++ [(g : Int)]) ∨ T0 ++ [(g : Int)] = [] ∧ (-1 : Int) = (g : Int)) ∧ (T0 ++ [(g : Int)]).length = n0) := Lib.hid ⟨Lib.hid (.inl ⟨T0, rfl⟩), hn0⟩
          clear hn0
          generalize T0 ++ [(g : Int)] = S0 at *
          go_loopg [14] n0 (fun n x wq => ∃ (la : Int) (S : List Int) (H : Home), x = .int .i64 la ∧ n ≤ 101 ∧ Hid (Hid ((∃ T, S = T ++ [(g : Int)]) ∨ S = [] ∧ la = (g : Int)) ∧ S.length = n) ∧ Hid (Sro W1 wq p H [] S))
          case atStart => exact ⟨-1, S0, H6, rfl, hn1, hst, hs⟩
          case round =>
            clear hs hst
            obtain ⟨la, S, H, rfl, hn2, hS, hs⟩ := hrel
            obtain ⟨hS, hSl⟩ := hS.out
            have cl := hs.out.left (by omega)
            rw [show ([] : List Job).length + S.length = gk by simp; omega] at cl
            replace hSl := Lib.hid hSl
            go_wp2_with fail
            with_reducible refine Calls.mono (cl) ?_
            rintro e w8 ⟨rfl, m, rfl⟩
            have hs := hs.out.below (below_drewN (Below.refl _ _) m)
            clear cl
            generalize wr.drewN m = w8 at *
            by_cases h0 : gk = 0
            · obtain rfl : S = [] := List.eq_nil_of_length_eq_zero (by rw [hSl.out]; exact h0)
              obtain rfl : la = (g : Int) := by
                rcases hS.out with ⟨T, hT⟩ | h
                · simp at hT
                · exact h.2
              subst h0
              have hb := hB.trans (hs.out.mono hB.size)
              clear hs hS hSl
              go_wp2_with fail
              with_reducible refine Calls.mono (next_nil _) ?_
              rintro e w9 ⟨rfl, hb9⟩
              have hb := hb.trans (hb9.mono hb.size)
              clear hb9
              have hba := below_alloc (Below.refl _ w9) (box3 0 0 0)
              have hb := hb.trans (hba.mono hb.size)
              clear hba
              go_wp2_with fail
              with_reducible refine Calls.mono (told_any _) ?_
              rintro e w10 ⟨rfl, hb10⟩
              have hb := hb.trans (hb10.mono hb.size)
              clear hb10
              have c9 := left_nil w10
              go_wp2_with fail
              with_reducible refine Calls.mono c9 ?_
              rintro e w11 ⟨rfl, rfl⟩
              go_wp2_with fail
              go_ret
              exact ⟨rfl, hb⟩
            · obtain ⟨z, S', rfl⟩ : ∃ z S', S = z :: S' := by
                cases S with
                | nil => exact absurd hSl.out.symm h0
                | cons z S' => exact ⟨z, S', rfl⟩
              have cx : Calls Try.prog 19 #[.pointer (some ⟨p, 0, none⟩)] w8 fun e W' => e = .returned (.tuple #[jv (z, 0, 16), .bool true]) ∧ ∃ H', Wrote H w8 H' W' ∧ Sro W1 W' p H' [] S' := hs.next
              have hS2 : Hid (Hid ((∃ T, S' = T ++ [(g : Int)]) ∨ S' = [] ∧ z = (g : Int)) ∧ S'.length = gk - 1) := Lib.hid ⟨Lib.hid (by
                rcases hS.out with ⟨T, hT⟩ | h
                · cases T with
                  | nil => simp at hT; exact .inr ⟨hT.2, hT.1⟩
                  | cons t T => simp at hT; exact .inl ⟨T, hT.2⟩
                · cases h.1), by have := hSl.out; simp at this; omega⟩
              clear hs hS hSl
              have q0 : (0 : Int) < (gk : Int) := by omega
              go_wp2_with fail
              with_reducible refine Calls.mono (cx) ?_
              rintro e w9 ⟨rfl, H9, -, hs⟩
              have hs := Lib.hid (hs.below (below_alloc (Below.refl _ w9) (box3 z 0 16)))
              obtain ⟨x0, x1, x2⟩ := box_cells (heap_alloc_new w9 (box3 z 0 16))
              clear cx
              go_wp2_with fail
              go_roundg (gk - 1)
              case rel => exact ⟨z, S', H9, rfl, by omega, hS2, hs⟩
              case measure => omega

set_option maxRecDepth 100000 in
theorem lifted (os : Os) (started : os.Started) (H : Type) (enc : TypeId × Value → H) :
    ReturnsInHanded {} Try.checked os 5 .any (Rows.rootsAddsSpec.pre6 enc Try.prog Try.f5 Rows.rootsAddsRow.domain false) (Rows.rootsAddsSpec.post enc Try.prog Try.f5 false true false false) := by
  refine returnsInHanded_of_change (C := Try.checked) own started (by kernel_rfl) Try.func5
    (ChangeSpec.witness6 (enc := enc) (C := Try.checked) false ⟨#[], #[.int .i64 0, .int .i64 0], []⟩ 8 (by kernel_rfl) (by kernel_rfl) (by kernel_rfl) (by kernel_rfl)) ?_
  intro W base args ds gs before hval0 hW hcnd _
  have hval : ∀ (j : Nat) t v, Try.f5.params[j]? = some t → args[j]? = some v → Value.okWide Try.prog W .any base t v := hval0
  have hW' := hW
  obtain ⟨p, q, hA0, hV, rfl, hfz, hnd⟩ := hW
  have hA : DataW.TrodAll enc Try.prog W 0 (fun _ => true) true Try.f5.params.toList args.toList ds p := hA0
  rw [Try.params5] at hA hval
  obtain ⟨v0, vs0, d0, ds0, p0, q0, hargs, rfl, rfl, h0, r0⟩ := trodAll_cons hA
  obtain ⟨v1, vs1, d1, ds1, p1, q1, rfl, rfl, rfl, h1, r1⟩ := trodAll_cons r0
  obtain ⟨rfl, rfl, rfl⟩ := trodAll_nil r1
  obtain rfl : args = #[v0, v1] := by cases args; simp_all
  obtain ⟨rfl, rfl⟩ := trodVars_none hV
  obtain ⟨a0, rfl, rfl, rfl, w0⟩ := open_int Try.underlying3 (hval 0 3 v0 rfl rfl) h0
  obtain ⟨a1, rfl, rfl, rfl, w1⟩ := open_int Try.underlying3 (hval 1 3 v1 rfl rfl) h1
  clear hA0 hval0
  simp only [List.append_nil] at hW'
  refine (walk a0 a1 W w0 w1).mono fun e W' ⟨he, hg⟩ => ?_
  subst he
  exact ⟨_, rfl, post_of_kept (pa := _) (pv := []) hW' (fun _ _ _ => (trodAll_cons_mk (shut_bool Try.underlying4 _) trodAll_mk0)) (trodAll_cons_mk (shut_int Try.underlying3 w0) (trodAll_cons_mk (shut_int Try.underlying3 w1) trodAll_mk0)) (fun _ _ => rfl) (by simp) hg⟩

theorem over : Rows.rootsAddsRow.holds Try.pinned (OpenSpec.ofChange Rows.rootsAddsSpec) :=
  OpenClaim.holds_of_wide 5 Try.f5 rfl rfl rfl rfl rfl rfl rfl ⟨rfl, rfl, rfl, rfl, rfl⟩ rfl rfl rfl rfl rfl (by kernel_rfl) Try.func5 (by kernel_rfl)
    (of_decide_eq_true (by kernel_rfl)) (by unfold Func.isWrapper; first | (rw [if_pos (by decide +kernel)]; kernel_rfl) | (rw [if_neg (by decide +kernel)]; exact ⟨rfl, rfl⟩))
    (fun os started H enc _ => lifted os started H enc)

theorem proved : Rows.RootsAddsSaid :=
  over
#print axioms proved
end Go.Proofs.Ytkpmifkdnndccaa.rootsAdds
