/- Halves of halves of a buffer: what goes over and what stays are together what there was, in order: so many (0 to 32), halved again and again into fresh ones. No condition. -/
import Derived.Test.YtgmcimhlkccfdaaBufMore
import Derived.WalkKit
import Derived.ProofKit
import Derived.OpenShut
import Derived.Deep.RegionHeld3
import Derived.Deep.RegionWith
import Derived.Deep.Cut
import Derived.Deep.CutBlock
import Derived.Deep.CutRange
import Derived.Deep.DeepCutAuto
import Derived.RegionTactic
namespace Go.Proofs.Ytgmcimhlkccfdaa.bufferHalves
open Go.ChangeShapes Go.WideShapes Go.ChangeAt Go.WideElems Go.RowKit Go.Lib Fx Ho Bu Rw Qu
set_option linter.unusedVariables false

theorem own : ownKnob Try.prog.godebug = none := by kernel_rfl

theorem off_slice {w : World} {v : Value} {zs : List Int} {n : Nat} (h : OffRow w v zs) (hn : zs.length = n) : ∃ sp cap, v = .slice sp n cap := by
  obtain ⟨sp, cap, e⟩ := h.slice
  exact ⟨sp, cap, by rw [e, hn]⟩
/-- A row that is read and lies apart from p. -/
abbrev Apart (p : Nat) : Home := fun k => k ≠ p
theorem apart_turned {w w' : World} {v : Value} {zs : List Int} {p : Nat} {H' : Home} (h : Ints w (Apart p) v zs) (ht : Wrote (at_ p) w H' w') : Ints w' (Apart p) v zs := h.wrote ht (fun k hk e => hk e)
theorem apart_of {w : World} {v : Value} {zs : List Int} {p lo : Nat} (h : OffRow w v zs) (hl : Low lo (fun k => v.ownBlock = some k)) (hp : p < lo) : Ints w (Apart p) v zs :=
  h.ints.wider (fun k hk _ e => by have := hl k hk; omega)
theorem ints_belowB {w w' : World} {S : Home} {v : Value} {zs : List Int} (h : Ints w S v zs) (hb : Below w.heap.size w w') : Ints w' S v zs := h.below hb
theorem off_below {w w' : World} {v : Value} {zs : List Int} (h : OffRow w v zs) (hb : Below w.heap.size w w') : OffRow w' v zs := h.wrote (H := fun _ => False) (Wrote.of_below hb) (fun _ _ h => h)
theorem wpList_append_lowg {w : World} {ops : Array Oper} {rest : List Oper} {o : Oper} {a : Act} {Q : Exit → Act → World → Prop} (hgd : Region.wanted o (yielded ops a.tmps) = true) (s x : Operand)
    (ho : o.op = .call { callee := .builtin .append, args := #[s, x], argTypes := #[26, 26] }) (hty : o.type = 26) {v xv : Value} {zs ys : List Int} (lo : Nat) (h : OffRow w v zs) (hl : Low lo (fun k => v.ownBlock = some k)) (hlo : lo ≤ w.heap.size) (hv : a.eval s = v) (hx : a.eval x = xv)
    (hs : Src Try.prog 1 26 xv ys.length (cells ys) w) (hn : zs.length + ys.length ≤ 1000000)
    (hK : ∀ v' w', OffRow w' v' (zs ++ ys) → Low lo (fun k => v'.ownBlock = some k) → Below lo w w' → wpList Try.prog ops Q rest (a.put o.dst v') w') : wpList Try.prog ops Q (o :: rest) a w := by
  refine wpList_step fun K hK' => ?_
  rw [if_pos hgd]
  obtain ⟨v', w', hr, h1, h2, h3⟩ := append_low h hl hlo hs hn
  unfold Oper.wp
  simp [execOp, ho, resolve, invoke, builtin, hv, hx, hty, hr, Result.andThen]
  exact hK' _ _ (hK v' w' h1 h2 h3)
set_option maxRecDepth 100000 in
set_option maxHeartbeats 4000000 in
theorem walk (a0 : Int) (w : World) (w0 : (Lit.int .i64 a0).wf = true) :
    Calls Try.prog 5 #[.int .i64 a0] w fun e w' => e = .returned (.bool true) ∧ Below w.heap.size w w' := by
  have ct := fun w => told_any w
  have cn := bs_new w
  obtain ⟨p, hp⟩ : ∃ p, w.heap.size = p := ⟨_, rfl⟩
  rw [hp] at cn
  clear hp
  obtain ⟨Z, hZ⟩ : ∃ Z : Int, IntKind.u64.wrap a0 = Z := ⟨_, rfl⟩
  have z1 : 0 ≤ Z := by rw [← hZ, IntKind.wrap_u64]; omega
  obtain ⟨m, hm⟩ : ∃ m : Nat, Z % 33 = (m : Int) := ⟨(Z % 33).toNat, by omega⟩
  have m1 : m ≤ 32 := by omega
  go_enter Try.func5, Try.ntmps5
  go_wp2_with fail
  with_reducible refine Calls.mono (cn) ?_
  rintro e w1 ⟨rfl, hs1⟩
  have hlt := hs1.b.lt
  replace hs1 := Lib.hid hs1
  clear cn
  go_wp2_with fail
  clear hZ z1 hm
  go_loopw [5, 6] (fun v i wr => ∃ (sp : Option Addr) (cap j : Nat), v = .slice sp j cap ∧ i = .int .i64 (1 + (j : Int)) ∧ j ≤ m ∧ p < wr.heap.size ∧ Hid (Bs w wr p (seqI 1 j)) ∧ Hid (OffRow wr (.slice sp j cap) (seqI 1 j)) ∧ Hid (Low (p + 1) (fun k => (Value.slice sp j cap).ownBlock = some k))) (fun _ i _ => (m + 1 - (intOf i).toNat))
  case atStart => exact ⟨none, 0, 0, rfl, by go_num, by omega, hlt, hs1, Lib.hid (offrow_nil _), Lib.hid (low_nil _)⟩
  case round =>
    obtain ⟨sp, cap, j, rfl, rfl, j1, hlt2, hS, hR, hLo⟩ := hrel
    clear hs1 hlt
    by_cases hj : j < m
    · have i2 : 1 + (j : Int) ≤ (m : Int) := by omega
      have i0 : (0 : Int) ≤ (j : Int) := by omega
      have cp := put_room (1 + (j : Int)) (by rw [seq_len]; omega) hS.out.b
      go_wp2_with fail
      with_reducible refine Calls.mono (cp) ?_
      rintro e w2 ⟨rfl, ht, hb⟩
      have hS2 := Lib.hid (hS.out.turns ht hb)
      have hR2 := Lib.hid (off_below (hR.out.wrote ht (fun k hk e => by have := hLo.out k hk; have e : k = p := e; omega)) (below_alloc (Below.refl _ _) (.cells #[.int .i64 (1 + (j : Int))] 3)))
      have hlt3 : p + 1 ≤ w2.heap.size := Nat.lt_of_lt_of_le hlt2 ht.size
      have hnx : Hid (∀ v3 w3, OffRow w3 v3 (seqI 1 j ++ [1 + (j : Int)]) → Below (p + 1) (w2.alloc (.cells #[.int .i64 (1 + (j : Int))] 3)) w3 → (∃ sp cap, v3 = .slice sp (j + 1) cap) ∧ p < w3.heap.size ∧ Hid (Bs w w3 p (seqI 1 (j + 1)))) := fun v3 w3 h1 h2 => by
        refine ⟨off_slice h1 (by show (seqI 1 (j + 1)).length = _; rw [seq_len]), ?_, ?_⟩
        · have := h2.size
          have e : (w2.alloc (.cells #[.int .i64 (1 + (j : Int))] 3)).heap.size = w2.heap.size + 1 := by show (w2.heap.push _).size = _; rw [Array.size_push]
          omega
        · exact (hS2.out.below (below_alloc (Below.refl _ _) _)).above h2 (by omega)
      have hlo2 : p + 1 ≤ (w2.alloc (.cells #[.int .i64 (1 + (j : Int))] 3)).heap.size := by show _ ≤ (w2.heap.push _).size; rw [Array.size_push]; omega
      have hbd : (seqI 1 j).length + 1 ≤ 1000000 := by rw [seq_len]; omega
      clear cp hS hR ht hb hS2
      go_wp2_with (at_builtin; refine wpList_append_low rfl (.tmp 26) (.tmp 28) rfl rfl (p + 1) hR2.out hLo.out hlo2 rfl rfl (src_one w2 (1 + (j : Int))) hbd ?_; intro v3 w3 hR3 hLo3 hB3; have hk := hnx.out v3 w3 hR3 hB3; obtain ⟨⟨sp3, cap3, rfl⟩, hlt4, hS3⟩ := hk; replace hR3 := Lib.hid hR3; replace hLo3 := Lib.hid hLo3; clear hnx hB3 hR2 hLo)
      go_roundw
      case rel => exact ⟨sp3, cap3, j + 1, rfl, by go_num, by omega, hlt4, hS3, hR3, hLo3⟩
      case measure => simp [intOf]; omega
    · obtain rfl : j = m := by omega
      have hW := Lib.hid (apart_of hR.out hLo.out (Nat.lt_succ_self p))
      clear hR hLo j1
      have i2 : ¬ (1 + (j : Int) ≤ (j : Int)) := by omega
      go_wp2_with fail
      clear i2 hj
      go_loopw [7, 8, 9] (fun t b s wr => ∃ (sp2 : Option Addr) (cap2 : Nat) (A T : List Int), t = .slice sp2 T.length cap2 ∧ p < wr.heap.size ∧ Hid (A ++ T = seqI 1 j) ∧ Hid (Bs w wr p A) ∧ Hid (Ints wr (Apart p) (.slice sp2 T.length cap2) T) ∧ Hid (Ints wr (Apart p) (.slice sp j cap) (seqI 1 j))) (fun t _ _ _ => match t with | .slice _ n _ => j - n | _ => 0)
      case atStart => exact ⟨none, 0, seqI 1 j, [], rfl, hlt2, Lib.hid (List.append_nil _), hS, Lib.hid (ints_nil _ _), hW⟩
      case round =>
        obtain ⟨sp2, cap2, A, T, rfl, hlt3, hAT, hS2, hT, hW2⟩ := hrel
        clear hS hW hlt2
        have hlen : A.length + T.length = j := by have := congrArg List.length hAT.out; rw [List.length_append, seq_len] at this; exact this
        have cl := len_any hS2.out.b
        by_cases h1 : 1 < A.length
        · have g1 : (1 : Int) < (A.length : Int) := by omega
          obtain ⟨h, hh⟩ : ∃ h, A.length / 2 = h := ⟨_, rfl⟩
          obtain ⟨k, hk⟩ : ∃ k, A.length - h = k := ⟨_, rfl⟩
          have cn := Bu.new_any wr
          have hnx : Hid (∀ w3, Below wr.heap.size wr w3 → IsBuf w3 wr.heap.size [] → Hid (Bs2 w w3 p wr.heap.size A []) ∧ wr.heap.size < w3.heap.size ∧ Hid (Ints w3 (fun x => x ≠ p ∧ x < wr.heap.size) (.slice sp2 T.length cap2) T) ∧ Hid (Ints w3 (fun x => x ≠ p ∧ x < wr.heap.size) (.slice sp j cap) (seqI 1 j))) := fun w3 hb hq =>
            ⟨⟨hS2.out.b.below hb, hq, Nat.ne_of_lt hlt3, hS2.out.lo, hS2.out.bel.size, hS2.out.bel.trans (hb.mono hS2.out.bel.size)⟩, hq.lt, (hT.out.wider (fun x hx hl => ⟨hx, hl⟩)).below hb, (hW2.out.wider (fun x hx hl => ⟨hx, hl⟩)).below hb⟩
          obtain ⟨q, hqe⟩ : ∃ q, wr.heap.size = q := ⟨_, rfl⟩
          rw [hqe] at cn hnx hlt3
          have hAl : Hid (A.length = k + h) := by show _ = _; omega
          have hhl : Hid (A.length / 2 = h) := hh
          have hh0 : 0 < h := by omega
          have hd : Hid ((A.drop k).length = h) := by show _ = _; rw [List.length_drop]; omega
          have htk : Hid ((A.take k).length = k) := by show _ = _; rw [List.length_take]; omega
          have e1 : (A.length : Int) / 2 = (h : Int) := by omega
          have e2 : (A.length : Int) - (h : Int) = (k : Int) := by omega
          have hkj : k + (h + T.length) = j := by omega
          clear hqe hS2 hT hW2 hh hk
          go_wp2_with fail
          with_reducible refine Calls.mono (cl) ?_
          rintro e w2 ⟨rfl, rfl⟩
          go_wp2_with fail
          with_reducible refine Calls.mono (cn) ?_
          rintro e w3 ⟨rfl, hb3, hq3⟩
          have hn3 := hnx.out w3 hb3 hq3
          obtain ⟨hS3, hqlt, hT3, hW3⟩ := hn3
          clear hnx hb3 hq3 cn cl
          have cl := len_any hS3.out.a
          have ch := half_ok hhl.out hAl.out (by show h + 0 ≤ 32; omega) hS3.out.ne hS3.out.a hS3.out.b
          go_wp2_with fail
          with_reducible refine Calls.mono (cl) ?_
          rintro e w2 ⟨rfl, rfl⟩
          clear cl
          go_wp2_with fail
          with_reducible refine Calls.mono (ch) ?_
          rintro e w4 ⟨rfl, ht4, hr4, hr5⟩
          have hS4 : Hid (Bs2 w w4 p q (A.take k) (A.drop k)) := hS3.out.turns2 ht4 hr4 hr5
          have hT4 := Lib.hid (hT3.out.wrote ht4 (fun x hx e => e.elim hx.1 (fun e => by have := hx.2; omega)))
          have hW4 := Lib.hid (hW3.out.wrote ht4 (fun x hx e => e.elim hx.1 (fun e => by have := hx.2; omega)))
          have hqlt4 : p < w4.heap.size := by have := ht4.size; omega
          have cl1 := len_any hS4.out.a
          have cl2 := len_any hS4.out.b
          rw [htk.out] at cl1
          rw [hd.out] at cl2
          clear ch ht4 hr4 hr5 hS3 hT3 hW3 hqlt
          go_wp2_with fail
          with_reducible refine Calls.mono (cl1) ?_
          rintro e w2 ⟨rfl, rfl⟩
          go_wp2_with fail
          with_reducible refine Calls.mono (cl2) ?_
          rintro e w2 ⟨rfl, rfl⟩
          clear cl1 cl2
          have hb5 := below_alloc (Below.refl w4.heap.size w4) (.cells #[] 3)
          have hs5 : (w4.alloc (.cells #[] 3)).heap.size = w4.heap.size + 1 := by show (w4.heap.push _).size = _; rw [Array.size_push]
          have ca := all_any (hS4.out.b.below hb5)
          rw [hd.out] at ca
          have hE : Hid (∀ W, Below (w4.alloc (.cells #[] 3)).heap.size (w4.alloc (.cells #[] 3)) W → OffRow W (.slice (some ⟨w4.heap.size, 0, none⟩) 0 0) [] ∧ Below w4.heap.size w4 W) := fun W hb =>
            ⟨off_below (off_empty (heap_alloc_new w4 _)) hb, hb5.trans (hb.mono (by omega))⟩
          have hTT : Hid (∀ W, Below w4.heap.size w4 W → Src Try.prog 1 26 (.slice sp2 T.length cap2) T.length (cells T) W) := fun W hb => src_of_ints (hT4.out.below hb)
          have hfin : Hid (∀ W v, OffRow W v ([] ++ A.drop k ++ T) → Low w4.heap.size (fun k => v.ownBlock = some k) → Below w4.heap.size w4 W → (∃ s3 c3, v = .slice s3 (A.drop k ++ T).length c3 ∧ Hid (Ints W (Apart p) (.slice s3 (A.drop k ++ T).length c3) (A.drop k ++ T))) ∧ p < W.heap.size ∧ Hid (A.take k ++ (A.drop k ++ T) = seqI 1 j) ∧ Hid (Bs w W p (A.take k)) ∧ Hid (Ints W (Apart p) (.slice sp j cap) (seqI 1 j))) := fun W v h1 h2 h3 => by
            have h1 : OffRow W v (A.drop k ++ T) := h1
            obtain ⟨s3, c3, rfl⟩ := off_slice h1 rfl
            refine ⟨⟨s3, c3, rfl, apart_of h1 h2 (by omega)⟩, by have := h3.size; omega, ?_, ?_, (hW4.out.below h3).wider (fun x hx _ => hx.1)⟩
            · show _ = _
              rw [← List.append_assoc, List.take_append_drop]; exact hAT.out
            · exact (⟨hS4.out.a.below h3, hS4.out.lo, hS4.out.bel.trans (h3.mono hS4.out.bel.size)⟩ : Bs w W p (A.take k))
          have hlen2 : (A.drop k ++ T).length = h + T.length := by rw [List.length_append, hd.out]
          have hb1 : ([] : List Int).length + (A.drop k).length ≤ 1000000 := by rw [hd.out]; show 0 + h ≤ 1000000; omega
          have hb2 : ([] ++ A.drop k : List Int).length + T.length ≤ 1000000 := by show (A.drop k).length + T.length ≤ 1000000; rw [hd.out]; omega
          have hS5 := Lib.hid hs5
          clear hs5 hb5 hS4 hT4 hW4 hAT
          go_wp2_with fail
          with_reducible refine Calls.mono ca ?_
          rintro e w6 ⟨v6, rfl, hb6, ho6⟩
          have hx6 := Lib.hid (ints_of_owns ho6)
          obtain ⟨s6, c6, rfl⟩ := own_slice ho6
          have hn6 := hE.out w6 hb6
          obtain ⟨hr6, hb46⟩ := hn6
          have hs6 := hb46.size
          have hsrc6 := Lib.hid (src_of_ints hx6.out)
          have hsrc6' : Hid (Src Try.prog 1 26 (.slice s6 h c6) (A.drop k).length (cells (A.drop k)) w6) := hsrc6
          clear ca hb6 ho6 hE hx6 hsrc6 hS5
          have hdd := Lib.hid hd.out
          replace hr6 := Lib.hid hr6
          replace hb46 := Lib.hid hb46
          clear hd htk hAl hhl e1 e2
          generalize hA1 : A.take k = A1 at *
          generalize hA2 : A.drop k = A2 at *
          clear hA1 hA2
          go_wp2_with (first
            | (at_builtin; refine wpList_append_low rfl (.tmp 62) (.tmp 64) rfl rfl w4.heap.size hr6.out (low_some (Nat.le_refl _)) hs6 rfl rfl hsrc6'.out hb1 ?_; intro v7 w7 hr7 hl7 hb7; have hs7 := Nat.le_trans hs6 hb7.size; replace hr7 := Lib.hid hr7; replace hl7 := Lib.hid hl7; have hb47 := Lib.hid (hb46.out.trans hb7); clear hb7)
            | (at_builtin; refine wpList_append_low rfl (.tmp 65) (.tmp 66) rfl rfl w4.heap.size hr7.out hl7.out hs7 rfl rfl (hTT.out w7 hb47.out) hb2 ?_; intro v8 w8 hr8 hl8 hb8; have hb48 := hb47.out.trans hb8; have hf := hfin.out w8 v8 hr8 hl8 hb48; obtain ⟨⟨s3, c3, rfl, hI8⟩, hlt8, hAT8, hS8, hW8⟩ := hf; clear hr8 hl8 hb8 hb48 hfin hTT hb46 hb47))
          go_roundw
          case rel => exact ⟨s3, c3, A1, A2 ++ T, by rw [hlen2], hlt8, hAT8, hS8, hI8, hW8⟩
          case measure =>
            show j - (h + T.length) < j - T.length
            omega
        · have g1 : ¬ (1 : Int) < (A.length : Int) := by omega
          have cn := Bu.new_any wr
          have hnx : Hid (∀ w3 w4, Below wr.heap.size wr w3 → IsBuf w3 wr.heap.size [] → Below w3.heap.size w3 w4 → Hid (Bs2 w w4 p wr.heap.size A []) ∧ wr.heap.size < w4.heap.size ∧ Hid (Ints w4 (fun x => x ≠ p ∧ x < wr.heap.size) (.slice sp2 T.length cap2) T) ∧ Hid (Ints w4 (fun x => x ≠ p ∧ x < wr.heap.size) (.slice sp j cap) (seqI 1 j))) := fun w3 w4 hb hq hb4 =>
            ⟨Bs2.below ⟨hS2.out.b.below hb, hq, Nat.ne_of_lt hlt3, hS2.out.lo, hS2.out.bel.size, hS2.out.bel.trans (hb.mono hS2.out.bel.size)⟩ hb4, Nat.lt_of_lt_of_le hq.lt hb4.size, ((hT.out.wider (fun x hx hl => ⟨hx, hl⟩)).below hb).below hb4, ((hW2.out.wider (fun x hx hl => ⟨hx, hl⟩)).below hb).below hb4⟩
          obtain ⟨q, hqe⟩ : ∃ q, wr.heap.size = q := ⟨_, rfl⟩
          rw [hqe] at cn hnx hlt3
          have h0 : Hid (A.length / 2 = 0) := by show _ = _; omega
          have htk : Hid (A.take A.length = A) := List.take_length
          have hAl1 : A.length ≤ 1 := by omega
          have hbnd : A.length + T.length ≤ 32 := by omega
          clear hqe hS2 hT hW2
          go_wp2_with fail
          with_reducible refine Calls.mono (cl) ?_
          rintro e w2 ⟨rfl, rfl⟩
          go_wp2_with fail
          with_reducible refine Calls.mono (cn) ?_
          rintro e w3 ⟨rfl, hb3, hq3⟩
          clear cl cn
          go_wp2_with fail
          with_reducible refine Calls.mono (ct w3) ?_
          rintro e w4 ⟨rfl, hb4⟩
          have hn3 := hnx.out w3 w4 hb3 hq3 hb4
          obtain ⟨hS3, hqlt, hT3, hW3⟩ := hn3
          clear hnx hb3 hq3 hb4
          have ch := half_ok (k := A.length) h0.out rfl (by show 0 + 0 ≤ 32; omega) hS3.out.ne hS3.out.a hS3.out.b
          rw [htk.out] at ch
          go_wp2_with fail
          with_reducible refine Calls.mono (ch) ?_
          rintro e w5 ⟨rfl, ht5, hr5, hr6⟩
          have hS4 := Lib.hid (hS3.out.turns2 ht5 hr5 hr6)
          have hT4 := Lib.hid (hT3.out.wrote ht5 (fun x hx e => e.elim hx.1 (fun e => by have := hx.2; omega)))
          have hW4 := Lib.hid (hW3.out.wrote ht5 (fun x hx e => e.elim hx.1 (fun e => by have := hx.2; omega)))
          clear ch ht5 hr5 hr6 hS3 hT3 hW3 hqlt
          have hb5 := below_alloc (Below.refl w5.heap.size w5) (.cells #[] 3)
          have hs5 : (w5.alloc (.cells #[] 3)).heap.size = w5.heap.size + 1 := by show (w5.heap.push _).size = _; rw [Array.size_push]
          have ca := all_any (hS4.out.a.below hb5)
          have hE : Hid (∀ W, Below (w5.alloc (.cells #[] 3)).heap.size (w5.alloc (.cells #[] 3)) W → OffRow W (.slice (some ⟨w5.heap.size, 0, none⟩) 0 0) [] ∧ Below w5.heap.size w5 W) := fun W hb =>
            ⟨off_below (off_empty (heap_alloc_new w5 _)) hb, hb5.trans (hb.mono (by omega))⟩
          have hTT : Hid (∀ W, Below w5.heap.size w5 W → Src Try.prog 1 26 (.slice sp2 T.length cap2) T.length (cells T) W) := fun W hb => src_of_ints (hT4.out.below hb)
          have hfin : Hid (∀ W v, OffRow W v ([] ++ A ++ T) → Below w5.heap.size w5 W → (∃ s3 c3, v = .slice s3 (A.length + T.length) c3) ∧ Calls Try.prog 24 #[v, .slice sp j cap] W (Ans (.bool true) W) ∧ Hid (Below w.heap.size w W)) := fun W v h1 h3 => by
            have h1 : OffRow W v (A ++ T) := h1
            have hi := h1.ints
            rw [hAT.out] at hi
            exact ⟨off_slice h1 List.length_append, ints_any hi (hW4.out.below h3), hS4.out.bel.trans (h3.mono hS4.out.bel.size)⟩
          have hb1 : ([] : List Int).length + A.length ≤ 1000000 := by show 0 + A.length ≤ 1000000; omega
          have hb2 : ([] ++ A : List Int).length + T.length ≤ 1000000 := by show A.length + T.length ≤ 1000000; omega
          have hS5 := Lib.hid hs5
          clear hs5 hb5 hS4 hT4 hW4 hAT h0 htk hlen
          go_wp2_with fail
          with_reducible refine Calls.mono ca ?_
          rintro e w6 ⟨v6, rfl, hb6, ho6⟩
          have hx6 := Lib.hid (ints_of_owns ho6)
          obtain ⟨s6, c6, rfl⟩ := own_slice ho6
          have hn6 := hE.out w6 hb6
          obtain ⟨hr6, hb46⟩ := hn6
          have hs6 := hb46.size
          have hsrc6 := Lib.hid (src_of_ints hx6.out)
          clear ca hb6 ho6 hE hx6 hS5
          replace hr6 := Lib.hid hr6
          replace hb46 := Lib.hid hb46
          go_wp2_with (first
            | (at_builtin; refine wpList_append_lowg rfl (.tmp 81) (.tmp 83) rfl rfl w5.heap.size hr6.out (low_some (Nat.le_refl _)) hs6 rfl rfl hsrc6.out hb1 ?_; intro v7 w7 hr7 hl7 hb7; have hs7 := Nat.le_trans hs6 hb7.size; replace hr7 := Lib.hid hr7; replace hl7 := Lib.hid hl7; have hb47 := Lib.hid (hb46.out.trans hb7); clear hb7)
            | (at_builtin; refine wpList_append_lowg rfl (.tmp 84) (.tmp 85) rfl rfl w5.heap.size hr7.out hl7.out hs7 rfl rfl (hTT.out w7 hb47.out) hb2 ?_; intro v8 w8 hr8 hl8 hb8; have hb48 := hb47.out.trans hb8; have hf := hfin.out w8 v8 hr8 hb48; obtain ⟨⟨s3, c3, rfl⟩, ci, hB8⟩ := hf; clear hr8 hl8 hb8 hb48 hfin hTT hb46 hb47))
          with_reducible refine Calls.mono ci ?_
          rintro e w9 ⟨rfl, c, rfl⟩
          have hB9 := Lib.hid (below_drewN hB8.out c)
          clear ci hB8
          go_wp2_with fail
          go_ret
          exact ⟨rfl, hB9.out⟩

set_option maxRecDepth 100000 in
theorem lifted (os : Os) (started : os.Started) (H : Type) (enc : TypeId × Value → H) :
    ReturnsInHanded {} Try.checked os 5 .any (Rows.bufferHalvesSpec.pre6 enc Try.prog Try.f5 Rows.bufferHalvesRow.domain false) (Rows.bufferHalvesSpec.post enc Try.prog Try.f5 false true false false) := by
  refine returnsInHanded_of_change (C := Try.checked) own started (by kernel_rfl) Try.func5
    (ChangeSpec.witness6 (enc := enc) (C := Try.checked) false ⟨#[], #[.int .i64 0], []⟩ 8 (by kernel_rfl) (by kernel_rfl) (by kernel_rfl) (by kernel_rfl)) ?_
  intro W base args ds gs before hval0 hW hcnd _
  have hval : ∀ (j : Nat) t v, Try.f5.params[j]? = some t → args[j]? = some v → Value.okWide Try.prog W .any base t v := hval0
  have hW' := hW
  obtain ⟨p, q, hA0, hV, rfl, hfz, hnd⟩ := hW
  have hA : DataW.TrodAll enc Try.prog W 0 (fun _ => true) true Try.f5.params.toList args.toList ds p := hA0
  rw [Try.params5] at hA hval
  obtain ⟨v0, vs0, d0, ds0, p0, q0, hargs, rfl, rfl, h0, r0⟩ := trodAll_cons hA
  obtain ⟨rfl, rfl, rfl⟩ := trodAll_nil r0
  obtain rfl : args = #[v0] := by cases args; simp_all
  obtain ⟨rfl, rfl⟩ := trodVars_none hV
  obtain ⟨a0, rfl, rfl, rfl, w0⟩ := open_int Try.underlying3 (hval 0 3 v0 rfl rfl) h0
  clear hA0 hval0
  simp only [List.append_nil] at hW'
  refine (walk a0 W w0).mono fun e W' ⟨he, hg⟩ => ?_
  subst he
  exact ⟨_, rfl, post_of_kept (pa := _) (pv := []) hW' (fun _ _ _ => (trodAll_cons_mk (shut_bool Try.underlying4 _) trodAll_mk0)) (trodAll_cons_mk (shut_int Try.underlying3 w0) trodAll_mk0) (fun _ _ => rfl) (by simp) hg⟩

theorem over : Rows.bufferHalvesRow.holds Try.pinned (OpenSpec.ofChange Rows.bufferHalvesSpec) :=
  OpenClaim.holds_of_wide 5 Try.f5 rfl rfl rfl rfl rfl rfl rfl ⟨rfl, rfl, rfl, rfl, rfl⟩ rfl rfl rfl rfl rfl (by kernel_rfl) Try.func5 (by kernel_rfl)
    (of_decide_eq_true (by kernel_rfl)) (by unfold Func.isWrapper; first | (rw [if_pos (by decide +kernel)]; kernel_rfl) | (rw [if_neg (by decide +kernel)]; exact ⟨rfl, rfl⟩))
    (fun os started H enc _ => lifted os started H enc)

theorem proved : Rows.BufferHalvesSaid :=
  over
#print axioms proved
end Go.Proofs.Ytgmcimhlkccfdaa.bufferHalves
