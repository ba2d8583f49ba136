/- For any two whole numbers the statement RingKeeps answers true and leaves its arguments as they were: of up to 699 goroutines that are put in a row, one taken now and then, each is in the row at the end, or was told as too much, or was taken, once, in order. No condition. -/
import Derived.Test.YteigcjgohhgjcaaRingKeep
import Derived.WalkKit
import Derived.ProofKit
import Derived.OpenShut
import Derived.Deep.RegionHeld3
import Derived.Deep.RegionWith
import Derived.Deep.Cut
import Derived.Deep.CutBlock
import Derived.Deep.CutRange
import Derived.Deep.DeepCutAuto
import Derived.RegionTactic
namespace Go.Proofs.Yteigcjgohhgjcaa.ringKeeps
open Go.ChangeShapes Go.WideShapes Go.ChangeAt Go.WideElems Go.RowKit Go.Lib Fx Ho Ri
set_option linter.unusedVariables false

theorem own : ownKnob Try.prog.godebug = none := by kernel_rfl

theorem cells_zero (k : Nat) : (madeCells (Value.int .i64 0).cells (k * 1)).toList = cells (List.replicate k 0) := by
  rw [Nat.mul_one, show (Value.int .i64 0).cells = #[.int .i64 0] from rfl, toList_madeCells_one]
  unfold cells
  rw [List.map_replicate]
theorem inv0 (k : Nat) : Inv k 0 (-1) [] (List.replicate k 0) :=
  ⟨List.Pairwise.nil, by simp, by omega, List.length_replicate, fun x hx => by
    rw [if_neg (by simp), if_neg (by omega), List.getD_eq_getElem?_getD, List.getElem?_replicate, if_pos hx]; rfl⟩
set_option maxRecDepth 100000 in
set_option maxHeartbeats 4000000 in
theorem walk (a0 : Int) (a1 : Int) (w : World) (w0 : (Lit.int .i64 a0).wf = true) (w1 : (Lit.int .i64 a1).wf = true) :
    Calls Try.prog 4 #[.int .i64 a0, .int .i64 a1] w fun e w' => e = .returned (.bool true) ∧ Below w.heap.size w w' := by
  have ct := fun w => told_any w
  have cn0 := rs_new w
  obtain ⟨i0, hi0, hz0, hz1, hz2⟩ := info_parts infoI
  obtain ⟨p, hp⟩ : ∃ p, w.heap.size = p := ⟨_, rfl⟩
  rw [hp] at cn0
  clear hp
  obtain ⟨Y, hY⟩ : ∃ Y : Int, IntKind.u64.wrap a0 = Y := ⟨_, rfl⟩
  obtain ⟨Z, hZ⟩ : ∃ Z : Int, IntKind.u64.wrap a1 = Z := ⟨_, rfl⟩
  have y0 : 0 ≤ Y := by rw [← hY, IntKind.wrap_u64]; omega
  have z0 : 0 ≤ Z := by rw [← hZ, IntKind.wrap_u64]; omega
  obtain ⟨k, hk⟩ : ∃ k : Nat, Y % 700 = (k : Int) := ⟨(Y % 700).toNat, by omega⟩
  obtain ⟨s, hs⟩ : ∃ s : Nat, Z % 9 = (s : Int) := ⟨(Z % 9).toNat, by omega⟩
  have k1 : k < 700 := by omega
  have s1 : s ≤ 8 := by omega
  go_enter Try.func4, Try.ntmps4
  go_wp2_with fail
  with_reducible refine Calls.mono (cn0) ?_
  rintro e w1 ⟨rfl, hs1⟩
  have hlt1 := hs1.r.lt
  have hmk : Hid (∀ w2, w2.ownsRow (p + 1) 3 1 (.slice (some ⟨w1.heap.size, 0, none⟩) k k) k (madeCells (Value.int .i64 0).cells (k * 1)).toList → w1.grownBy w2 none → Hid (Rx w w2 p [] w1.heap.size k (List.replicate k 0) (.slice none 0 0) 0 [])) := fun w2 h1 h2 => by
    rw [cells_zero] at h1
    exact ⟨hs1.below ((Below.refl _ _).grown h2 (Nat.le_refl _) (fun k hk => by cases hk)), h1, World.ownsRow_nil _ _ _ _⟩
  clear cn0 hs1
  go_wp2_with (refine wpList_make_full _ rfl _ _ 26 rfl (p + 1) 3 i0 (.int .i64 0) 1 Try.underlying26 hi0 hz0 hz1 .i64 .i64 _ _ k rfl rfl rfl rfl (by rw [hz2]; omega) (by unfold maxLen; omega) (by omega) ?_; intro w2 hown2 hgrow2; have hX := hmk.out w2 hown2 hgrow2; clear hown2 hgrow2)
  clear hY hZ hk hs hmk hlt1
  generalize w1.heap.size = sb at *
  have hI0 : Hid (Inv k 0 (-1) [] (List.replicate k 0)) := inv0 k
  go_loopw [9, 10] (fun u y wr => ∃ (i : Nat) (la : Int) (L S : List Int) (v : Value) (n : Nat) (zs : List Int), u = .int .i64 la ∧ y = .int .i64 i ∧ i ≤ k ∧ Hid (Rx w wr p L sb k S v n zs) ∧ Hid (Inv k i la L S)) (fun _ y _ => (k - (intOf y).toNat))
  case atStart => exact ⟨0, -1, _, _, _, _, _, rfl, rfl, by omega, hX, hI0⟩
  case round =>
    obtain ⟨i, la, L, S, v, n, zs, rfl, rfl, i1, hX2, hI⟩ := hrel
    clear hX hI0
    by_cases hik : i < k
    · have i2 : (i : Int) < (k : Int) := by omega
      have i3 : (0 : Int) ≤ (i : Int) := by omega
      have cp := rx_put hX2.out hI.out hik
      have hla := hI.out.lst
      have hSlen : Hid (S.length = k) := hI.out.len
      have hSb : Hid (∀ x : Nat, x < k → 0 ≤ S.getD x 0 ∧ S.getD x 0 ≤ 1) := fun x hx => by
        rw [hI.out.seen x hx]; split
        · omega
        · split <;> omega
      clear hX2 hI
      go_wp2_with fail
      with_reducible refine Calls.mono (cp) ?_
      rintro e w3 ⟨v3, m, ys, L3, rfl, hX3, hm, hyl, hyb, hI3, hpos, hmax⟩
      obtain ⟨sp3, cap3, rfl⟩ := own_slice hX3.out.ex
      clear cp
      go_wp2_with fail
      go_loopw [12] (fun y wr => ∃ j : Nat, y = .int .i64 j ∧ j ≤ m ∧ Hid (Rx w wr p L3 sb k (incTo S ys j) (.slice sp3 m cap3) m ys)) (fun y _ => (m - (intOf y).toNat))
      case atStart => exact ⟨0, rfl, by omega, hX3⟩
      case round =>
        obtain ⟨j, rfl, j1, hX4⟩ := hrel
        clear hX3
        by_cases hj : j < m
        · have j2 : (j : Int) < (m : Int) := by omega
          have j3 : (0 : Int) ≤ (j : Int) := by omega
          obtain ⟨b, cap, hv, _, _, hcell, _⟩ := own_at hX4.out.ex hj
          obtain ⟨rfl, rfl⟩ : sp3 = some ⟨b, 0, none⟩ ∧ cap3 = cap := by simpa using hv
          have hb2 := hyb.out j hj
          obtain ⟨t, ht⟩ : ∃ t : Nat, ys.getD j 0 = (t : Int) := ⟨(ys.getD j 0).toNat, by omega⟩
          rw [ht] at hcell hb2
          have ht2 : t < k := by omega
          have ht3 : (t : Int) < (k : Int) := hb2.2
          have ht4 : (0 : Int) ≤ (t : Int) := hb2.1
          obtain ⟨c1, c2⟩ := hX4.out.seen ht2
          have hval := inc_get hSlen.out (fun j hj => hyb.out j (by rw [hyl.out] at hj; exact hj)) j (by rw [hyl.out]; omega) t ht2
          have hv1 := hSb.out t ht2
          have hv2 := cn_in (ys.take j) t
          have hv3 : (ys.take j).length ≤ j := List.length_take_le _ _
          have hfin : Hid (∀ W, W.heap = (wr.setCell ⟨sb, t, none⟩ (.int .i64 ((incTo S ys j).getD t 0 + 1))).heap → W.os = wr.os → W.tape = wr.tape → W.output = wr.output → Hid (Rx w W p L3 sb k (incTo S ys (j + 1)) (.slice (some ⟨b, 0, none⟩) m cap3) m ys)) := fun W a1 a2 a3 a4 => by
            have := hX4.out.put a1 a2 a3 a4
            show Rx w W p L3 sb k ((incTo S ys j).set (ys.getD j 0).toNat ((incTo S ys j).getD (ys.getD j 0).toNat 0 + 1)) _ _ _
            rw [ht, Int.toNat_natCast]; exact this
          have hlo : 0 ≤ (incTo S ys j).getD t 0 := by omega
          have hhi : (incTo S ys j).getD t 0 ≤ 300 := by omega
          have hsb := hX4.out.sbp
          clear hX4 hv ht hval hv1 hv2 hv3
          generalize (incTo S ys j).getD t 0 = z at *
          go_wp2_with fail
          go_roundw
          case rel => exact ⟨j + 1, by go_num, by omega, hfin.out _ rfl rfl rfl rfl⟩
          case measure => simp [intOf]; omega
        · obtain rfl : j = m := by omega
          have hl := rs_len hX4.out.rs
          have hllen : (allOf none L3).length ≤ 257 := by show L3.length ≤ 257; omega
          generalize (allOf none L3).length = ll at *
          have hl5 : ¬ (257 : Int) < (ll : Int) := by omega
          have hl6 : decide ((257 : Int) < (ll : Int)) = false := decide_eq_false hl5
          generalize incTo S ys j = S3 at *
          clear hSlen hSb hyb hyl hj j1
          go_wp2_with fail
          with_reducible refine Calls.mono (hl) ?_
          rintro e w5 ⟨rfl, rfl⟩
          clear hl
          by_cases hd : i % (s + 1) = 0
          · have hd2 : (i : Int) % (1 + (s : Int)) = 0 := by
              have : ((i % (s + 1) : Nat) : Int) = 0 := by rw [hd]; rfl
              rw [Int.natCast_emod] at this
              rw [show (1 : Int) + (s : Int) = ((s + 1 : Nat) : Int) by omega]; exact this
            obtain ⟨g, R, rfl⟩ : ∃ g R, L3 = g :: R := by
              cases L3 with
              | nil => simp at hpos
              | cons g R => exact ⟨g, R, rfl⟩
            obtain ⟨g1, g2, g3, g4, hI5⟩ := hI3.out.take1 (by omega)
            obtain ⟨t, rfl⟩ : ∃ t : Nat, g = (t : Int) := ⟨g.toNat, by omega⟩
            rw [Int.toNat_natCast] at g4 hI5
            have cg := rs_get (g := (t : Int)) (R := R) hX4.out.rs rfl
            have hkeep : Hid (∀ W, Rs w W p none R → Wrote (at_ p) wr (at_ p) W → Hid (Rx w W p R sb k S3 (.slice sp3 j cap3) j ys)) := fun W h1 h2 => hX4.out.turns h2 h1
            have g5 : ¬ (t : Int) ≤ la := by omega
            have g6 : ¬ (k : Int) ≤ (t : Int) := by omega
            have g7 : decide ((t : Int) ≤ la) = false := decide_eq_false g5
            have g8 : decide ((k : Int) ≤ (t : Int)) = false := decide_eq_false g6
            replace hd := Lib.hid hd
            replace hI5 := Lib.hid hI5
            clear hX4 hI3 hpos hmax
            go_wp2_with fail
            with_reducible refine Calls.mono (cg) ?_
            rintro e w6 ⟨rfl, hr6, ht6⟩
            have hX6 := hkeep.out w6 hr6 ht6
            obtain ⟨c1, c2⟩ := hX6.out.seen (show t < k by omega)
            rw [g4] at c1 hI5
            have hfin : Hid (∀ W, W.heap = (w6.setCell ⟨sb, t, none⟩ (.int .i64 1)).heap → W.os = w6.os → W.tape = w6.tape → W.output = w6.output → Hid (Rx w W p R sb k (S3.set t (0 + 1)) (.slice sp3 j cap3) j ys)) := fun W a1 a2 a3 a4 => hX6.out.put a1 a2 a3 a4
            clear cg hkeep hr6 ht6 hX6 g4
            go_wp2_with fail
            go_roundw
            case rel => exact ⟨i + 1, _, _, _, _, _, _, rfl, by go_num, by omega, hfin.out _ rfl rfl rfl rfl, hI5⟩
            case measure => simp [intOf]; omega
          · have hd2 : ((i : Int) % (1 + (s : Int)) == 0) = false := by
              rw [beq_eq_false_iff_ne]; intro h0
              rw [show (1 : Int) + (s : Int) = ((s + 1 : Nat) : Int) by omega, ← Int.natCast_emod] at h0
              omega
            replace hd := Lib.hid hd
            go_wp2_with fail
            go_roundw
            case rel => exact ⟨i + 1, _, _, _, _, _, _, rfl, by go_num, by omega, hX4, hI3⟩
            case measure => simp [intOf]; omega
    · obtain rfl : i = k := by omega
      have hrp := hX2.out.rs
      have ca := all_any wr hrp.r
      rw [show allOf none L = L from rfl] at ca
      have hnext : Hid (∀ W v', Below wr.heap.size wr W → W.ownsRow wr.heap.size 3 1 v' L.length (cells L) → Hid (Rx w W p L sb i S v' L.length L)) := fun W v' hb ho => (hX2.out.below hb).other (owns_mono ho (by have := hX2.out.sbp; omega))
      have hsort : Hid (L.Pairwise (· < ·)) := hI.out.sorted
      have hbd : Hid (∀ j, j < L.length → 0 ≤ L.getD j 0 ∧ L.getD j 0 < (i : Int)) := fun j hj => by
        rw [List.getD_eq_getElem?_getD, List.getElem?_eq_getElem hj]
        exact ⟨(hI.out.low _ (List.getElem_mem hj)).2.1, (hI.out.low _ (List.getElem_mem hj)).2.2⟩
      have hup : Hid (∀ j, j + 1 < L.length → L.getD j 0 < L.getD (j + 1) 0) := fun j hj => by
        rw [List.getD_eq_getElem?_getD, List.getD_eq_getElem?_getD, List.getElem?_eq_getElem (by omega), List.getElem?_eq_getElem hj]
        exact List.pairwise_iff_getElem.1 hI.out.sorted j (j + 1) (by omega) hj (by omega)
      have hSlen : Hid (S.length = i) := hI.out.len
      have hseen : Hid (∀ x : Nat, x < i → S.getD x 0 = if (x : Int) ∈ L then 0 else 1) := fun x hx => by
        rw [hI.out.seen x hx]
        by_cases hm : (x : Int) ∈ L
        · rw [if_pos hm, if_pos hm]
        · rw [if_neg hm, if_neg hm, if_pos hx]
      have hone : Hid (∀ x : Nat, x < i → (incTo S L L.length).getD x 0 = 1) := fun x hx => by
        rw [inc_get hSlen.out hbd.out _ (Nat.le_refl _) x hx, List.take_length, cn_sorted hsort.out, hseen.out x hx]
        split <;> rfl
      have hval : Hid (∀ j, j ≤ L.length → ∀ x : Nat, x < i → 0 ≤ (incTo S L j).getD x 0 ∧ (incTo S L j).getD x 0 ≤ 1 + L.length) := fun j hj x hx => by
        rw [inc_get hSlen.out hbd.out j hj x hx, hseen.out x hx]
        have h1 := cn_in (L.take j) x
        have h2 : (L.take j).length ≤ j := List.length_take_le _ _
        split <;> omega
      have hsm := hrp.r.small
      clear hX2 hI hik i1 hrp hsort hseen hSlen
      obtain ⟨l, hl⟩ : ∃ l, L.length = l := ⟨_, rfl⟩
      rw [hl] at ca hnext hbd hup hone hval hsm
      go_wp2_with fail
      with_reducible refine Calls.mono (ca) ?_
      rintro e w5 ⟨v5, rfl, hb5, ho5⟩
      obtain ⟨sp5, cap5, rfl⟩ := own_slice ho5
      have hX5 := hnext.out w5 _ hb5 ho5
      clear ca hnext hb5 ho5
      go_wp2_with fail
      go_loopw [16] (fun y wr => ∃ j : Nat, y = .int .i64 j ∧ j ≤ l ∧ Hid (Rx w wr p L sb i (incTo S L j) (.slice sp5 l cap5) l L)) (fun y _ => (l - (intOf y).toNat))
      case atStart => exact ⟨0, rfl, by omega, hX5⟩
      case round =>
        obtain ⟨j, rfl, j1, hX6⟩ := hrel
        clear hX5
        by_cases hj : j < l
        · have j2 : (j : Int) < (l : Int) := by omega
          have j3 : (0 : Int) ≤ (j : Int) := by omega
          obtain ⟨b, cap, hv, _, _, hcell, _⟩ := own_at hX6.out.ex hj
          obtain ⟨rfl, rfl⟩ : sp5 = some ⟨b, 0, none⟩ ∧ cap5 = cap := by simpa using hv
          have hb2 := hbd.out j hj
          obtain ⟨t, ht⟩ : ∃ t : Nat, L.getD j 0 = (t : Int) := ⟨(L.getD j 0).toNat, by omega⟩
          rw [ht] at hcell hb2
          have ht2 : t < i := by omega
          have ht3 : (t : Int) < (i : Int) := hb2.2
          have ht4 : (0 : Int) ≤ (t : Int) := hb2.1
          have ht5 : decide ((t : Int) < 0) = false := decide_eq_false (by omega)
          have ht6 : decide ((i : Int) ≤ (t : Int)) = false := decide_eq_false (by omega)
          have ht7 : decide (i ≤ t) = false := decide_eq_false (by omega)
          obtain ⟨c1, c2⟩ := hX6.out.seen ht2
          have hvl := hval.out j (by omega) t ht2
          have hfin : Hid (∀ W, W.heap = (wr.setCell ⟨sb, t, none⟩ (.int .i64 ((incTo S L j).getD t 0 + 1))).heap → W.os = wr.os → W.tape = wr.tape → W.output = wr.output → Hid (Rx w W p L sb i (incTo S L (j + 1)) (.slice (some ⟨b, 0, none⟩) l cap5) l L)) := fun W a1 a2 a3 a4 => by
            have := hX6.out.put a1 a2 a3 a4
            show Rx w W p L sb i ((incTo S L j).set (L.getD j 0).toNat ((incTo S L j).getD (L.getD j 0).toNat 0 + 1)) _ _ _
            rw [ht, Int.toNat_natCast]; exact this
          by_cases hj0 : j = 0
          · subst hj0
            rw [show ((0 : Nat) : Int) = 0 from rfl]
            rw [show ((0 : Nat) : Int) = 0 from rfl] at j2
            clear hX6 hv ht j3
            generalize (incTo S L 0).getD t 0 = z at *
            go_wp2_with fail
            go_quiet (fail)
            go_wp2_with fail
            go_roundw
            case rel => exact ⟨0 + 1, by first | rfl | go_num, by omega, hfin.out _ rfl rfl rfl rfl⟩
            case measure => simp [intOf]; omega
          · obtain ⟨m, rfl⟩ : ∃ m, j = m + 1 := ⟨j - 1, by omega⟩
            have hu := hup.out m hj
            obtain ⟨bb, capb, hv2, _, _, hcell2, _⟩ := own_at hX6.out.ex (show m < l by omega)
            obtain ⟨rfl, rfl⟩ : b = bb ∧ cap5 = capb := by simpa using hv2
            rw [ht] at hu
            rw [show ((m + 1 : Nat) : Int) = (m : Int) + 1 by omega] at j2 j3
            rw [show ((m + 1 : Nat) : Int) = (m : Int) + 1 by omega]
            have u1 : ¬ (t : Int) ≤ L.getD m 0 := by omega
            have u2 : decide ((t : Int) ≤ L.getD m 0) = false := decide_eq_false u1
            have q1 : decide ((0 : Int) < (m : Int) + 1) = true := decide_eq_true (by omega)
            have q2 : (0 : Int) ≤ (m : Int) := by omega
            have q3 : (m : Int) < (l : Int) := by omega
            have q4 : IntKind.i64.wrap (m : Int) = (m : Int) := IntWalk.i64_in _ ⟨by omega, by omega⟩
            clear hX6 hv hv2 ht hu
            generalize (incTo S L (m + 1)).getD t 0 = z at *
            generalize L.getD m 0 = y at *
            go_wp2_with fail
            go_quiet (fail)
            go_wp2_with fail
            go_roundw
            case rel => exact ⟨m + 1 + 1, by go_num, by omega, hfin.out _ rfl rfl rfl rfl⟩
            case measure => simp [intOf]; omega
        · obtain rfl : j = l := by omega
          have hcells : Hid (∀ x, x < i → wr.cell? ⟨sb, x, none⟩ = some (.int .i64 1)) := fun x hx => by
            have := (hX6.out.seen hx).1
            rwa [hone.out x hx] at this
          have hbel := Lib.hid hX6.out.rs.bel
          clear hX6 hval hone hup hbd hj j1
          go_wp2_with fail
          go_loopw [17] (fun y wx => ∃ x : Nat, y = .int .i64 x ∧ x ≤ i ∧ wx = wr) (fun y _ => (i - (intOf y).toNat))
          case atStart => exact ⟨0, rfl, by omega, rfl⟩
          case round =>
            obtain ⟨x, rfl, x1, rfl⟩ := hrel
            by_cases hx : x < i
            · have x2 : (x : Int) < (i : Int) := by omega
              have x3 : (0 : Int) ≤ (x : Int) := by omega
              have hc := hcells.out x hx
              go_wp2_with fail
              go_roundw
              case rel => exact ⟨x + 1, by go_num, by omega, by first | rfl | trivial⟩
              case measure => simp [intOf]; omega
            · obtain rfl : x = i := by omega
              go_wp2_with fail
              with_reducible refine Calls.mono (ct _) ?_
              rintro e w7 ⟨rfl, hb7⟩
              have hf := Lib.hid (hbel.out.trans (hb7.mono hbel.out.size))
              go_wp2_with fail
              go_ret
              exact ⟨rfl, hf.out⟩

set_option maxRecDepth 100000 in
theorem lifted (os : Os) (started : os.Started) (H : Type) (enc : TypeId × Value → H) :
    ReturnsInHanded {} Try.checked os 4 .any (Rows.ringKeepsSpec.pre6 enc Try.prog Try.f4 Rows.ringKeepsRow.domain false) (Rows.ringKeepsSpec.post enc Try.prog Try.f4 false true false false) := by
  refine returnsInHanded_of_change (C := Try.checked) own started (by kernel_rfl) Try.func4
    (ChangeSpec.witness6 (enc := enc) (C := Try.checked) false ⟨#[], #[.int .i64 0, .int .i64 0], []⟩ 8 (by kernel_rfl) (by kernel_rfl) (by kernel_rfl) (by kernel_rfl)) ?_
  intro W base args ds gs before hval0 hW hcnd _
  have hval : ∀ (j : Nat) t v, Try.f4.params[j]? = some t → args[j]? = some v → Value.okWide Try.prog W .any base t v := hval0
  have hW' := hW
  obtain ⟨p, q, hA0, hV, rfl, hfz, hnd⟩ := hW
  have hA : DataW.TrodAll enc Try.prog W 0 (fun _ => true) true Try.f4.params.toList args.toList ds p := hA0
  rw [Try.params4] at hA hval
  obtain ⟨v0, vs0, d0, ds0, p0, q0, hargs, rfl, rfl, h0, r0⟩ := trodAll_cons hA
  obtain ⟨v1, vs1, d1, ds1, p1, q1, rfl, rfl, rfl, h1, r1⟩ := trodAll_cons r0
  obtain ⟨rfl, rfl, rfl⟩ := trodAll_nil r1
  obtain rfl : args = #[v0, v1] := by cases args; simp_all
  obtain ⟨rfl, rfl⟩ := trodVars_none hV
  obtain ⟨a0, rfl, rfl, rfl, w0⟩ := open_int Try.underlying3 (hval 0 3 v0 rfl rfl) h0
  obtain ⟨a1, rfl, rfl, rfl, w1⟩ := open_int Try.underlying3 (hval 1 3 v1 rfl rfl) h1
  clear hA0 hval0
  simp only [List.append_nil] at hW'
  refine (walk a0 a1 W w0 w1).mono fun e W' ⟨he, hg⟩ => ?_
  subst he
  exact ⟨_, rfl, post_of_kept (pa := _) (pv := []) hW' (fun _ _ _ => (trodAll_cons_mk (shut_bool Try.underlying4 _) trodAll_mk0)) (trodAll_cons_mk (shut_int Try.underlying3 w0) (trodAll_cons_mk (shut_int Try.underlying3 w1) trodAll_mk0)) (fun _ _ => rfl) (by simp) hg⟩

theorem over : Rows.ringKeepsRow.holds Try.pinned (OpenSpec.ofChange Rows.ringKeepsSpec) :=
  OpenClaim.holds_of_wide 4 Try.f4 rfl rfl rfl rfl rfl rfl rfl ⟨rfl, rfl, rfl, rfl, rfl⟩ rfl rfl rfl rfl rfl (by kernel_rfl) Try.func4 (by kernel_rfl)
    (of_decide_eq_true (by kernel_rfl)) (by unfold Func.isWrapper; first | (rw [if_pos (by decide +kernel)]; kernel_rfl) | (rw [if_neg (by decide +kernel)]; exact ⟨rfl, rfl⟩))
    (fun os started H enc _ => lifted os started H enc)

theorem proved : Rows.RingKeepsSaid :=
  over
#print axioms proved
end Go.Proofs.Yteigcjgohhgjcaa.ringKeeps
