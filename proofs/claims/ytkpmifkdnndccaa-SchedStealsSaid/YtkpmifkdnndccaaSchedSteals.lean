/- For any whole number and any bool the statement SchedSteals answers true and leaves its arguments as they were: who has nobody takes half of the victim's row, and goes on with the first of them; the victim keeps the rest, and who is next there. No condition. -/
import Derived.Test.YtkpmifkdnndccaaHome
import Derived.Test.YtkpmifkdnndccaaSchedTold
import Derived.WalkKit
import Derived.ProofKit
import Derived.OpenShut
import Derived.Deep.RegionHeld3
import Derived.Deep.RegionWith
import Derived.Deep.Cut
import Derived.Deep.CutBlock
import Derived.Deep.CutRange
import Derived.Deep.LoopGhost
import Derived.Deep.DeepCutAuto
import Derived.RegionTactic
import Derived.StillTailTactics
namespace Go.Proofs.Ytkpmifkdnndccaa.schedSteals
open Go.ChangeShapes Go.WideShapes Go.ChangeAt Go.WideElems Go.RowKit Go.Lib Fx Ho Sd Rw
set_option linter.unusedVariables false

theorem own : ownKnob Try.prog.godebug = none := by kernel_rfl

/-- n numbers that rise by one, from c on, the first ahead. -/
def upI (c : Int) : Nat → List Int
  | 0 => []
  | n + 1 => c :: upI (c + 1) n
theorem up_app (c : Int) : ∀ n, upI c (n + 1) = upI c n ++ [c + (n : Int)]
  | 0 => by simp [upI]
  | n + 1 => by
    have h := up_app (c + 1) n
    show c :: upI (c + 1) (n + 1) = (c :: upI (c + 1) n) ++ _
    rw [h, List.cons_append, show c + 1 + (n : Int) = c + ((n + 1 : Nat) : Int) by omega]
theorem up_len (c : Int) : ∀ n, (upI c n).length = n
  | 0 => rfl
  | n + 1 => by show (upI (c + 1) n).length + 1 = _; rw [up_len (c + 1) n]
theorem up_take (c : Int) : ∀ (m n : Nat), m ≤ n → (upI c n).take m = upI c m
  | 0, n, _ => rfl
  | m + 1, 0, h => by omega
  | m + 1, n + 1, h => by show c :: (upI (c + 1) n).take m = _; rw [up_take (c + 1) m n (by omega)]; rfl
theorem up_in {c : Int} : ∀ {n : Nat} {g : Int}, g ∈ upI c n → c ≤ g ∧ g < c + n
  | 0, g, h => by cases h
  | n + 1, g, h => by
    rcases List.mem_cons.1 h with h | h
    · omega
    · have := up_in h; omega
theorem put1 {L : List Int} {nx : Option Int} (g : Int) (h : L.length < 256) : rPut (nx, L) g false = ((nx, L ++ [g]), []) := by
  show rRow nx L g = _
  unfold rRow; rw [if_pos h]
theorem take0 (R : List Rg) (i m : Nat) : takeS R [] i m = (none, R, []) := by unfold takeS; simp
theorem turn1 (R : List Rg) (C : List Int) (i : Nat) : turnS R C i 1 = (none, R, C) := if_pos (.inr (by decide))
theorem pick_self (o : Rg) (v : Int) (hv : v = 0 ∨ v = 3) : pickS [rg0, rg0, o] [] 0 1 v = (none, [rg0, rg0, o], []) := by
  unfold pickS
  rw [turn1]
  have e : rGet (([rg0, rg0, o] : List Rg).getD 0 rg0) = (none, rg0) := rfl
  have e2 : stealR [rg0, rg0, o] 0 v = [rg0, rg0, o] := if_neg (by simp; omega)
  simp only [e, take0, e2]
  rfl
theorem pick_half {nx : Option Int} {k h : Nat} (hk : 1 ≤ k) (k2 : k ≤ 200) (hh : k - k / 2 = h) : pickS [rg0, rg0, (nx, upI 0 k)] [] 0 1 2 = (some 0, [(none, upI 1 (h - 1)), rg0, (nx, (upI 0 k).drop h)], []) := by
  unfold pickS
  rw [turn1]
  have e : rGet (([rg0, rg0, (nx, upI 0 k)] : List Rg).getD 0 rg0) = (none, rg0) := rfl
  obtain ⟨m, rfl⟩ : ∃ m, h = m + 1 := ⟨h - 1, by omega⟩
  have e3 : rSteal rg0 (nx, upI 0 k) = ((none, upI 0 (m + 1)), (nx, (upI 0 k).drop (m + 1))) := by
    obtain ⟨j, rfl⟩ : ∃ j, k = j + 1 := ⟨k - 1, by omega⟩
    show ((none, [] ++ (upI 0 (j + 1)).take (min ((upI 0 (j + 1)).length - (upI 0 (j + 1)).length / 2) (256 - 0))), (nx, (upI 0 (j + 1)).drop (min ((upI 0 (j + 1)).length - (upI 0 (j + 1)).length / 2) (256 - 0)))) = _
    rw [up_len, show min (j + 1 - (j + 1) / 2) (256 - 0) = m + 1 by omega, up_take _ _ _ (by omega), List.nil_append]
  have e2 : stealR [rg0, rg0, (nx, upI 0 k)] 0 2 = [(none, upI 0 (m + 1)), rg0, (nx, (upI 0 k).drop (m + 1))] := by
    unfold stealR
    rw [if_pos (by simp)]
    show (([rg0, rg0, (nx, upI 0 k)] : List Rg).set 0 (rSteal rg0 (nx, upI 0 k)).1).set 2 (rSteal rg0 (nx, upI 0 k)).2 = _
    rw [e3]; rfl
  simp only [e, take0, e2]
  rfl
theorem pick_more (o : Rg) {c : Int} {m : Nat} : pickS [(none, upI c (m + 1)), rg0, o] [] 0 1 1 = (some c, [(none, upI (c + 1) m), rg0, o], []) := by
  unfold pickS
  rw [turn1]
  rfl
theorem pick_end (o : Rg) : pickS [(none, []), rg0, o] [] 0 1 1 = (none, [(none, []), rg0, o], []) := by
  unfold pickS
  rw [turn1]
  have e : rGet (([(none, []), rg0, o] : List Rg).getD 0 rg0) = (none, rg0) := rfl
  have e2 : stealR [(none, []), rg0, o] 0 1 = [(none, []), rg0, o] := by
    unfold stealR
    rw [if_pos (by simp)]; rfl
  simp only [e, take0, e2]
  rfl
theorem whereN {k h : Nat} (m : Nat) (k2 : k ≤ 200) (m2 : m ≤ 200) : whereV [(none, upI 1 m), rg0, (none, (upI 0 k).drop h)] [] 5000 = .tuple #[.int .i64 0, .bool false] := by
  have h1 : (5000 : Int) ∉ rAll (none, upI 1 m) := fun e => by have := up_in (show (5000 : Int) ∈ upI 1 m from e); omega
  have h2 : (5000 : Int) ∉ rAll (none, (upI 0 k).drop h) := fun e => by have := up_in (List.mem_of_mem_drop (show (5000 : Int) ∈ (upI 0 k).drop h from e)); omega
  have h3 : (5000 : Int) ∉ rAll rg0 := by simp [rAll, Ri.allOf, rg0]
  have e1 : findR [(none, upI 1 m), rg0, (none, (upI 0 k).drop h)] 5000 3 = none := by
    simp only [findR, List.getD_cons_zero, List.getD_cons_succ]
    simp [h1, h2, h3]
  unfold whereV
  rw [show ([(none, upI 1 m), rg0, (none, (upI 0 k).drop h)] : List Rg).length = 3 from rfl, e1]
  simp
theorem whereY {k h : Nat} (m : Nat) (m2 : m ≤ 200) : whereV [(none, upI 1 m), rg0, (some 5000, (upI 0 k).drop h)] [] 5000 = .tuple #[.int .i64 2, .bool true] := by
  have h1 : (5000 : Int) ∉ rAll (none, upI 1 m) := fun e => by have := up_in (show (5000 : Int) ∈ upI 1 m from e); omega
  have h2 : (5000 : Int) ∈ rAll (some 5000, (upI 0 k).drop h) := by simp [rAll, Ri.allOf]
  have h3 : (5000 : Int) ∉ rAll rg0 := by simp [rAll, Ri.allOf, rg0]
  have e1 : findR [(none, upI 1 m), rg0, (some 5000, (upI 0 k).drop h)] 5000 3 = some 2 := by
    simp only [findR, List.getD_cons_zero, List.getD_cons_succ]
    simp [h1, h2, h3]
  unfold whereV
  rw [show ([(none, upI 1 m), rg0, (some 5000, (upI 0 k).drop h)] : List Rg).length = 3 from rfl, e1]
  rfl
set_option maxRecDepth 100000 in
set_option maxHeartbeats 4000000 in
theorem walk (a0 : Int) (a1 : Bool) (w : World) (w0 : (Lit.int .i64 a0).wf = true) :
    Calls Try.prog 9 #[.int .i64 a0, .bool a1] w fun e w' => e = .returned (.bool true) ∧ Below w.heap.size w w' := by
  obtain ⟨Z, hZ⟩ : ∃ Z : Int, IntKind.u64.wrap a0 = Z := ⟨_, rfl⟩
  have z1 : 0 ≤ Z := by rw [← hZ, IntKind.wrap_u64]; omega
  obtain ⟨k, hk⟩ : ∃ k : Nat, 1 + Z % 200 = (k : Int) := ⟨(1 + Z % 200).toNat, by omega⟩
  have k0 : 1 ≤ k := by omega
  have k1 : k ≤ 200 := by omega
  have cn := new_any 3 (by omega) (by omega) w
  go_enter Try.func9, Try.ntmps9
  go_wp2_with fail
  with_reducible refine Calls.mono (cn) ?_
  rintro e w1 ⟨p, H, rfl, hs⟩
  replace hs : Hid (Ss w w1 p H [rg0, rg0, (none, upI 0 0)] []) := hs
  clear cn
  go_wp2_with fail
  clear hZ z1 hk
  go_loopw [8] (fun x wr => ∃ (i : Nat) (H : Home), x = .int .i64 i ∧ i ≤ k ∧ Hid (Ss w wr p H [rg0, rg0, (none, upI 0 i)] [])) (fun x _ => (k - (RowKit.intOf x).toNat))
  case atStart => exact ⟨0, H, rfl, by omega, hs⟩
  case round =>
    clear hs
    obtain ⟨i, H, rfl, i1, hs⟩ := hrel
    by_cases hi : i < k
    · have i2 : (i : Int) < (k : Int) := by omega
      have cy := ready_in hs.out (i := 2) (by simp) (i : Int) false (by simp)
      replace cy : Calls Try.prog 35 #[.pointer (some ⟨p, 0, none⟩), .int .i64 2, .int .i64 i, .bool false] wr (Step (.int .i64 0) w wr p H [rg0, rg0, (none, upI 0 (i + 1))] []) := by
        have e : rPut (([rg0, rg0, (none, upI 0 i)] : List Rg).getD 2 rg0) (i : Int) false = ((none, upI 0 i ++ [(i : Int)]), []) := put1 _ (by rw [up_len]; omega)
        rw [e] at cy
        rw [show upI 0 (i + 1) = upI 0 i ++ [(i : Int)] by rw [up_app, Int.zero_add]]
        exact cy
      clear hs
      go_wp2_with fail
      with_reducible refine Calls.mono cy ?_
      rintro e w2 ⟨rfl, H2, -, hs⟩
      replace hs := Lib.hid hs
      clear cy
      go_wp2_with fail
      go_roundw
      case rel => exact ⟨i + 1, H2, by go_num, by omega, hs⟩
      case measure => simp [RowKit.intOf]; omega
    · obtain rfl : i = k := by omega
      have i2 : ¬ ((i : Int) < (i : Int)) := by omega
      obtain ⟨h, hh⟩ : ∃ h, i - i / 2 = h := ⟨_, rfl⟩
      have h1 : 1 ≤ h := by omega
      have h2 : h ≤ i := by omega
      have hquo : (i : Int).tdiv 2 = ((i / 2 : Nat) : Int) := by rw [Int.tdiv_eq_ediv_of_nonneg (by omega)]; omega
      have hdl : ((upI 0 i).drop h).length = i / 2 := by rw [List.length_drop, up_len]; omega
      replace hdl := Lib.hid hdl
      cases a1 with
      | false =>
        have cp := pick_in hs.out (i := 0) (by simp) 1 0 (by simp) (by simp)
        rw [pick_self _ _ (.inl rfl)] at cp
        replace cp : Calls Try.prog 36 #[.pointer (some ⟨p, 0, none⟩), .int .i64 0, .int .i64 1, .int .i64 0] wr (Step (.tuple #[.int .i64 0, .bool false]) w wr p H [rg0, rg0, (none, upI 0 i)] []) := cp
        clear hs
        go_wp2_with fail
        with_reducible refine Calls.mono cp ?_
        rintro e w3 ⟨rfl, H3, -, hs⟩
        clear cp
        have cp := pick_in hs (i := 0) (by simp) 1 3 (by simp) (by simp)
        rw [pick_self _ _ (.inr rfl)] at cp
        replace cp : Calls Try.prog 36 #[.pointer (some ⟨p, 0, none⟩), .int .i64 0, .int .i64 1, .int .i64 3] w3 (Step (.tuple #[.int .i64 0, .bool false]) w w3 p H3 [rg0, rg0, (none, upI 0 i)] []) := cp
        clear hs
        go_wp2_with fail
        with_reducible refine Calls.mono cp ?_
        rintro e w4 ⟨rfl, H4, -, hs⟩
        clear cp
        have cp := pick_in hs (i := 0) (by simp) 1 2 (by simp) (by simp)
        rw [pick_half k0 k1 hh] at cp
        replace cp : Calls Try.prog 36 #[.pointer (some ⟨p, 0, none⟩), .int .i64 0, .int .i64 1, .int .i64 2] w4 (Step (.tuple #[.int .i64 0, .bool true]) w w4 p H4 [(none, upI 1 (h - 1)), rg0, (none, (upI 0 i).drop h)] []) := cp
        clear hs
        go_wp2_with fail
        with_reducible refine Calls.mono cp ?_
        rintro e w5 ⟨rfl, H5, -, hs⟩
        clear cp
        have c0 := local_in hs (i := 0) (by simp)
        replace c0 : Calls Try.prog 37 #[.pointer (some ⟨p, 0, none⟩), .int .i64 0] w5 fun e W' => ∃ sp cap, e = .returned (.slice sp (h - 1) cap) ∧ Hid (Below w5.heap.size w5 W') := c0.mono fun e W' ⟨v', a, b, sp, cap, c, _⟩ => ⟨sp, cap, by rw [a, c, show (rAll (([(none, upI 1 (h - 1)), rg0, (none, (upI 0 i).drop h)] : List Rg).getD 0 rg0)).length = h - 1 from up_len _ _], Lib.hid b⟩
        have hA : (i : Int) - (i : Int) / 2 = ((h : Nat) : Int) := by omega
        have hhI : ((h - 1 : Nat) : Int) = (h : Int) - 1 := by omega
        replace hs := Lib.hid hs
        clear k0 hh
        go_wp2_with fail
        with_reducible refine Calls.mono c0 ?_
        rintro e w6 ⟨sp, cap, rfl, hb⟩
        have hs := hs.out.below hb.out
        clear c0 hb
        have c0 := local_in hs (i := 2) (by simp)
        replace c0 : Calls Try.prog 37 #[.pointer (some ⟨p, 0, none⟩), .int .i64 2] w6 fun e W' => ∃ sp cap, e = .returned (.slice sp (i / 2) cap) ∧ Hid (Below w6.heap.size w6 W') := c0.mono fun e W' ⟨v', a, b, sp, cap, c, _⟩ => ⟨sp, cap, by rw [a, c, show (rAll (([(none, upI 1 (h - 1)), rg0, (none, (upI 0 i).drop h)] : List Rg).getD 2 rg0)).length = i / 2 from hdl.out], Lib.hid b⟩
        have hc := where_any hs 5000 (by simp)
        rw [whereN (h - 1) k1 (by omega)] at hc
        replace hs := Lib.hid hs
        go_wp2_with fail
        with_reducible refine Calls.mono c0 ?_
        rintro e w7 ⟨sp2, cap2, rfl, hb⟩
        have hs := hs.out.below hb.out
        clear c0 hb hc hhI
        have hc := where_any hs 5000 (by simp)
        rw [whereN (h - 1) k1 (by omega)] at hc
        replace hs := Lib.hid hs
        go_wp2_with fail
        with_reducible refine Calls.mono hc ?_
        rintro e w8 ⟨rfl, hb⟩
        have hs := Lib.hid (hs.out.below hb)
        clear hc hb
        go_wp2_with fail
        go_loopw [19] (fun x wq => ∃ (c m : Nat) (H : Home), x = .int .i64 c ∧ c + m = h ∧ 1 ≤ c ∧ Hid (Ss w wq p H [(none, upI c m), rg0, (none, (upI 0 i).drop h)] [])) (fun x _ => (h - (RowKit.intOf x).toNat))
        case atStart => exact ⟨1, h - 1, H5, rfl, by omega, by omega, hs⟩
        case round =>
          clear hs
          obtain ⟨c, m, H, rfl, cm, c1, hs⟩ := hrel
          rcases m with _ | m
          · obtain rfl : c = h := by omega
            have cp := pick_in hs.out (i := 0) (by simp) 1 1 (by simp) (by simp)
            rw [show upI ((c : Nat) : Int) 0 = [] from rfl, pick_end] at cp
            replace cp : Calls Try.prog 36 #[.pointer (some ⟨p, 0, none⟩), .int .i64 0, .int .i64 1, .int .i64 1] wr (Step (.tuple #[.int .i64 0, .bool false]) w wr p H [(none, []), rg0, (none, (upI 0 i).drop c)] []) := cp
            clear hs
            go_wp2_with fail
            with_reducible refine Calls.mono cp ?_
            rintro e wA ⟨rfl, HA, -, hs⟩
            replace hs := Lib.hid hs
            have cn := pick_nil 0 1 0 wA
            clear cp
            go_wp2_with fail
            with_reducible refine Calls.mono cn ?_
            rintro e wB ⟨rfl, rfl⟩
            have ct := told_any wA
            clear cn
            go_wp2_with fail
            with_reducible refine Calls.mono ct ?_
            rintro e wC ⟨rfl, hb⟩
            have hs := hs.out.below hb
            clear ct hb
            have cl := slen_nil wC
            have cm := len_any hs (by simp) (by simp)
            rw [show (([] : List Int).length + sumR [(none, []), rg0, (none, (upI 0 i).drop c)] ([(none, []), rg0, (none, (upI 0 i).drop c)] : List Rg).length : Nat) = i / 2 by
              show 0 + (0 + 0 + 0 + (rAll (none, (upI 0 i).drop c)).length) = _
              rw [show (rAll (none, (upI 0 i).drop c)).length = i / 2 from hdl.out]; omega] at cm
            replace hs := Lib.hid hs
            go_wp2_with fail
            with_reducible refine Calls.mono cl ?_
            rintro e wD ⟨rfl, rfl⟩
            clear cl
            go_wp2_with fail
            with_reducible refine Calls.mono cm ?_
            rintro e wD ⟨rfl, mm, rfl⟩
            have hb := below_drewN hs.out.out mm
            clear cm hs
            go_wp2_with fail
            go_ret
            exact ⟨rfl, hb⟩
          · have i3 : (c : Int) < (h : Int) := by omega
            have cp := pick_in hs.out (i := 0) (by simp) 1 1 (by simp) (by simp)
            rw [pick_more] at cp
            replace cp : Calls Try.prog 36 #[.pointer (some ⟨p, 0, none⟩), .int .i64 0, .int .i64 1, .int .i64 1] wr (Step (.tuple #[.int .i64 c, .bool true]) w wr p H [(none, upI ((c : Int) + 1) m), rg0, (none, (upI 0 i).drop h)] []) := cp
            clear hs
            go_wp2_with fail
            with_reducible refine Calls.mono cp ?_
            rintro e wA ⟨rfl, HA, -, hs⟩
            replace hs : Hid (Ss w wA p HA [(none, upI ((c + 1 : Nat) : Int) m), rg0, (none, (upI 0 i).drop h)] []) := Lib.hid hs
            clear cp
            go_wp2_with fail
            go_roundw
            case rel => exact ⟨c + 1, m, HA, by go_num, by omega, by omega, hs⟩
            case measure => simp [RowKit.intOf]; omega
      | true =>
        have cy := ready_in hs.out (i := 2) (by simp) 5000 true (by simp)
        replace cy : Calls Try.prog 35 #[.pointer (some ⟨p, 0, none⟩), .int .i64 2, .int .i64 5000, .bool true] wr (Step (.int .i64 0) w wr p H [rg0, rg0, (some 5000, upI 0 i)] []) := cy
        clear hs
        go_wp2_with fail
        with_reducible refine Calls.mono cy ?_
        rintro e w2 ⟨rfl, H2, -, hs⟩
        replace hs := Lib.hid hs
        clear cy
        have cp := pick_in hs.out (i := 0) (by simp) 1 0 (by simp) (by simp)
        rw [pick_self _ _ (.inl rfl)] at cp
        replace cp : Calls Try.prog 36 #[.pointer (some ⟨p, 0, none⟩), .int .i64 0, .int .i64 1, .int .i64 0] w2 (Step (.tuple #[.int .i64 0, .bool false]) w w2 p H2 [rg0, rg0, (some 5000, upI 0 i)] []) := cp
        clear hs
        go_wp2_with fail
        with_reducible refine Calls.mono cp ?_
        rintro e w3 ⟨rfl, H3, -, hs⟩
        clear cp
        have cp := pick_in hs (i := 0) (by simp) 1 3 (by simp) (by simp)
        rw [pick_self _ _ (.inr rfl)] at cp
        replace cp : Calls Try.prog 36 #[.pointer (some ⟨p, 0, none⟩), .int .i64 0, .int .i64 1, .int .i64 3] w3 (Step (.tuple #[.int .i64 0, .bool false]) w w3 p H3 [rg0, rg0, (some 5000, upI 0 i)] []) := cp
        clear hs
        go_wp2_with fail
        with_reducible refine Calls.mono cp ?_
        rintro e w4 ⟨rfl, H4, -, hs⟩
        clear cp
        have cp := pick_in hs (i := 0) (by simp) 1 2 (by simp) (by simp)
        rw [pick_half k0 k1 hh] at cp
        replace cp : Calls Try.prog 36 #[.pointer (some ⟨p, 0, none⟩), .int .i64 0, .int .i64 1, .int .i64 2] w4 (Step (.tuple #[.int .i64 0, .bool true]) w w4 p H4 [(none, upI 1 (h - 1)), rg0, (some 5000, (upI 0 i).drop h)] []) := cp
        clear hs
        go_wp2_with fail
        with_reducible refine Calls.mono cp ?_
        rintro e w5 ⟨rfl, H5, -, hs⟩
        clear cp
        have c0 := local_in hs (i := 0) (by simp)
        replace c0 : Calls Try.prog 37 #[.pointer (some ⟨p, 0, none⟩), .int .i64 0] w5 fun e W' => ∃ sp cap, e = .returned (.slice sp (h - 1) cap) ∧ Hid (Below w5.heap.size w5 W') := c0.mono fun e W' ⟨v', a, b, sp, cap, c, _⟩ => ⟨sp, cap, by rw [a, c, show (rAll (([(none, upI 1 (h - 1)), rg0, (some 5000, (upI 0 i).drop h)] : List Rg).getD 0 rg0)).length = h - 1 from up_len _ _], Lib.hid b⟩
        have hA : (i : Int) - (i : Int) / 2 = ((h : Nat) : Int) := by omega
        have hhI : ((h - 1 : Nat) : Int) = (h : Int) - 1 := by omega
        replace hs := Lib.hid hs
        clear k0 hh
        go_wp2_with fail
        with_reducible refine Calls.mono c0 ?_
        rintro e w6 ⟨sp, cap, rfl, hb⟩
        have hs := hs.out.below hb.out
        clear c0 hb
        have c0 := local_in hs (i := 2) (by simp)
        replace c0 : Calls Try.prog 37 #[.pointer (some ⟨p, 0, none⟩), .int .i64 2] w6 fun e W' => ∃ sp cap, e = .returned (.slice sp (i / 2 + 1) cap) ∧ Hid (Below w6.heap.size w6 W') := c0.mono fun e W' ⟨v', a, b, sp, cap, c, _⟩ => ⟨sp, cap, by rw [a, c, show (rAll (([(none, upI 1 (h - 1)), rg0, (some 5000, (upI 0 i).drop h)] : List Rg).getD 2 rg0)).length = i / 2 + 1 by show ((upI 0 i).drop h).length + 1 = _; rw [hdl.out]], Lib.hid b⟩
        have hc := where_any hs 5000 (by simp)
        rw [whereY (h - 1) (by omega)] at hc
        replace hs := Lib.hid hs
        go_wp2_with fail
        with_reducible refine Calls.mono c0 ?_
        rintro e w7 ⟨sp2, cap2, rfl, hb⟩
        have hs := hs.out.below hb.out
        clear c0 hb hc hhI
        have hc := where_any hs 5000 (by simp)
        rw [whereY (h - 1) (by omega)] at hc
        replace hs := Lib.hid hs
        go_wp2_with fail
        with_reducible refine Calls.mono hc ?_
        rintro e w8 ⟨rfl, hb⟩
        have hs := Lib.hid (hs.out.below hb)
        clear hc hb
        go_wp2_with fail
        go_loopw [19] (fun x wq => ∃ (c m : Nat) (H : Home), x = .int .i64 c ∧ c + m = h ∧ 1 ≤ c ∧ Hid (Ss w wq p H [(none, upI c m), rg0, (some 5000, (upI 0 i).drop h)] [])) (fun x _ => (h - (RowKit.intOf x).toNat))
        case atStart => exact ⟨1, h - 1, H5, rfl, by omega, by omega, hs⟩
        case round =>
          clear hs
          obtain ⟨c, m, H, rfl, cm, c1, hs⟩ := hrel
          rcases m with _ | m
          · obtain rfl : c = h := by omega
            have cp := pick_in hs.out (i := 0) (by simp) 1 1 (by simp) (by simp)
            rw [show upI ((c : Nat) : Int) 0 = [] from rfl, pick_end] at cp
            replace cp : Calls Try.prog 36 #[.pointer (some ⟨p, 0, none⟩), .int .i64 0, .int .i64 1, .int .i64 1] wr (Step (.tuple #[.int .i64 0, .bool false]) w wr p H [(none, []), rg0, (some 5000, (upI 0 i).drop c)] []) := cp
            clear hs
            go_wp2_with fail
            with_reducible refine Calls.mono cp ?_
            rintro e wA ⟨rfl, HA, -, hs⟩
            replace hs := Lib.hid hs
            have cn := pick_nil 0 1 0 wA
            clear cp
            go_wp2_with fail
            with_reducible refine Calls.mono cn ?_
            rintro e wB ⟨rfl, rfl⟩
            have ct := told_any wA
            clear cn
            go_wp2_with fail
            with_reducible refine Calls.mono ct ?_
            rintro e wC ⟨rfl, hb⟩
            have hs := hs.out.below hb
            clear ct hb
            have cl := slen_nil wC
            have cm := len_any hs (by simp) (by simp)
            rw [show (([] : List Int).length + sumR [(none, []), rg0, (some 5000, (upI 0 i).drop c)] ([(none, []), rg0, (some 5000, (upI 0 i).drop c)] : List Rg).length : Nat) = i / 2 + 1 by
              show 0 + (0 + 0 + 0 + (rAll (some 5000, (upI 0 i).drop c)).length) = _
              rw [show (rAll (some 5000, (upI 0 i).drop c)).length = i / 2 + 1 by show ((upI 0 i).drop c).length + 1 = _; rw [hdl.out]]; omega] at cm
            replace hs := Lib.hid hs
            go_wp2_with fail
            with_reducible refine Calls.mono cl ?_
            rintro e wD ⟨rfl, rfl⟩
            clear cl
            go_wp2_with fail
            with_reducible refine Calls.mono cm ?_
            rintro e wD ⟨rfl, mm, rfl⟩
            have hb := below_drewN hs.out.out mm
            clear cm hs
            go_wp2_with fail
            go_ret
            exact ⟨rfl, hb⟩
          · have i3 : (c : Int) < (h : Int) := by omega
            have cp := pick_in hs.out (i := 0) (by simp) 1 1 (by simp) (by simp)
            rw [pick_more] at cp
            replace cp : Calls Try.prog 36 #[.pointer (some ⟨p, 0, none⟩), .int .i64 0, .int .i64 1, .int .i64 1] wr (Step (.tuple #[.int .i64 c, .bool true]) w wr p H [(none, upI ((c : Int) + 1) m), rg0, (some 5000, (upI 0 i).drop h)] []) := cp
            clear hs
            go_wp2_with fail
            with_reducible refine Calls.mono cp ?_
            rintro e wA ⟨rfl, HA, -, hs⟩
            replace hs : Hid (Ss w wA p HA [(none, upI ((c + 1 : Nat) : Int) m), rg0, (some 5000, (upI 0 i).drop h)] []) := Lib.hid hs
            clear cp
            go_wp2_with fail
            go_roundw
            case rel => exact ⟨c + 1, m, HA, by go_num, by omega, by omega, hs⟩
            case measure => simp [RowKit.intOf]; omega

set_option maxRecDepth 100000 in
theorem lifted (os : Os) (started : os.Started) (H : Type) (enc : TypeId × Value → H) :
    ReturnsInHanded {} Try.checked os 9 .any (Rows.schedStealsSpec.pre6 enc Try.prog Try.f9 Rows.schedStealsRow.domain false) (Rows.schedStealsSpec.post enc Try.prog Try.f9 false true false false) := by
  refine returnsInHanded_of_change (C := Try.checked) own started (by kernel_rfl) Try.func9
    (ChangeSpec.witness6 (enc := enc) (C := Try.checked) false ⟨#[], #[.int .i64 0, .bool false], []⟩ 8 (by kernel_rfl) (by kernel_rfl) (by kernel_rfl) (by kernel_rfl)) ?_
  intro W base args ds gs before hval0 hW hcnd _
  have hval : ∀ (j : Nat) t v, Try.f9.params[j]? = some t → args[j]? = some v → Value.okWide Try.prog W .any base t v := hval0
  have hW' := hW
  obtain ⟨p, q, hA0, hV, rfl, hfz, hnd⟩ := hW
  have hA : DataW.TrodAll enc Try.prog W 0 (fun _ => true) true Try.f9.params.toList args.toList ds p := hA0
  rw [Try.params9] at hA hval
  obtain ⟨v0, vs0, d0, ds0, p0, q0, hargs, rfl, rfl, h0, r0⟩ := trodAll_cons hA
  obtain ⟨v1, vs1, d1, ds1, p1, q1, rfl, rfl, rfl, h1, r1⟩ := trodAll_cons r0
  obtain ⟨rfl, rfl, rfl⟩ := trodAll_nil r1
  obtain rfl : args = #[v0, v1] := by cases args; simp_all
  obtain ⟨rfl, rfl⟩ := trodVars_none hV
  obtain ⟨a0, rfl, rfl, rfl, w0⟩ := open_int Try.underlying3 (hval 0 3 v0 rfl rfl) h0
  obtain ⟨a1, rfl, rfl, rfl⟩ := open_bool Try.underlying4 (hval 1 4 v1 rfl rfl) h1
  clear hA0 hval0
  simp only [List.append_nil] at hW'
  refine (walk a0 a1 W w0).mono fun e W' ⟨he, hg⟩ => ?_
  subst he
  exact ⟨_, rfl, post_of_kept (pa := _) (pv := []) hW' (fun _ _ _ => (trodAll_cons_mk (shut_bool Try.underlying4 _) trodAll_mk0)) (trodAll_cons_mk (shut_int Try.underlying3 w0) (trodAll_cons_mk (shut_bool Try.underlying4 _) trodAll_mk0)) (fun _ _ => rfl) (by simp) hg⟩

theorem over : Rows.schedStealsRow.holds Try.pinned (OpenSpec.ofChange Rows.schedStealsSpec) :=
  OpenClaim.holds_of_wide 9 Try.f9 rfl rfl rfl rfl rfl rfl rfl ⟨rfl, rfl, rfl, rfl, rfl⟩ rfl rfl rfl rfl rfl (by kernel_rfl) Try.func9 (by kernel_rfl)
    (of_decide_eq_true (by kernel_rfl)) (by unfold Func.isWrapper; first | (rw [if_pos (by decide +kernel)]; kernel_rfl) | (rw [if_neg (by decide +kernel)]; exact ⟨rfl, rfl⟩))
    (fun os started H enc _ => lifted os started H enc)

theorem proved : Rows.SchedStealsSaid :=
  over
#print axioms proved
end Go.Proofs.Ytkpmifkdnndccaa.schedSteals
