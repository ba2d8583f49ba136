/- For any slice of whole numbers and any whole number the statement WaitOrder answers true and leaves its arguments as they were: who waits longest at a place is woken first, whatever happens at other places. No condition. -/
import Derived.Test.YtkpmifkdnndccabHome
import Derived.Test.YtkpmifkdnndccabWaitTold
import Derived.WalkKit
import Derived.ProofKit
import Derived.OpenShut
import Derived.Deep.RegionHeld3
import Derived.Deep.RegionWith
import Derived.Deep.Cut
import Derived.Deep.CutBlock
import Derived.Deep.CutRange
import Derived.Deep.LoopGhost
import Derived.Deep.DeepCutAuto
import Derived.RegionTactic
import Derived.StillTailTactics
namespace Go.Proofs.Ytkpmifkdnndccab.waitOrder
open Go.ChangeShapes Go.WideShapes Go.ChangeAt Go.WideElems Go.RowKit Go.Lib Fx Ho Wt Rw Qu
set_option linter.unusedVariables false

theorem own : ownKnob Try.prog.godebug = none := by kernel_rfl

/-- Where number i waits. -/
def fz (zs : List Int) (i : Nat) : Nat := (IntKind.u64.wrap (zs.getD i 0) % 32).toNat
theorem fz_lt (zs : List Int) (i : Nat) : fz zs i < 32 := by
  unfold fz
  have h1 : 0 ≤ IntKind.u64.wrap (zs.getD i 0) % 32 := Int.emod_nonneg _ (by decide)
  have h2 := Int.emod_lt_of_pos (IntKind.u64.wrap (zs.getD i 0)) (by decide : (0 : Int) < 32)
  omega
theorem fz_int (zs : List Int) (i : Nat) : IntKind.u64.wrap (zs.getD i 0) % 32 = (fz zs i : Int) := by
  unfold fz
  have h1 : 0 ≤ IntKind.u64.wrap (zs.getD i 0) % 32 := Int.emod_nonneg _ (by decide)
  omega
/-- The rows once k have come. -/
def Z1 (f : Nat → Nat) (k : Nat) : Nat → List Int := fun j => sel (fun i => decide (f i = j)) 0 k
theorem Z1_more (f : Nat → Nat) (k : Nat) : upd (Z1 f k) (f k) (Z1 f k (f k) ++ [(k : Int)]) = Z1 f (k + 1) := by
  funext j
  have h := sel_add (fun i => decide (f i = j)) k 0 1
  have h1 : sel (fun i => decide (f i = j)) (0 + k) 1 = if f k = j then [(k : Int)] else [] := by
    rw [Nat.zero_add]
    show (if decide (f k = j) then _ else _) = _
    by_cases e : f k = j <;> simp [e, sel]
  rw [h1] at h
  show _ = sel (fun i => decide (f i = j)) 0 (k + 1)
  rw [h]
  by_cases e : f k = j
  · subst e; rw [upd_same, if_pos rfl]; rfl
  · rw [upd_ne _ _ (fun e' => e e'.symm), if_neg e, List.append_nil]; rfl
theorem Z1_not (f : Nat → Nat) (k j : Nat) : (k : Int) ∉ Z1 f k j := fun h => by
  obtain ⟨t, a, b, c, d⟩ := sel_in h
  omega
/-- The rows without o. -/
def Z2 (f : Nat → Nat) (o n : Nat) : Nat → List Int := fun j => sel (fun i => decide (f i = j) && decide (i ≠ o)) 0 n
theorem Z2_at (f : Nat → Nat) {o n : Nat} (ho : o < n) : At (Z1 f n) (o : Int) (f o) (sel (fun i => decide (f i = f o)) 0 o) (sel (fun i => decide (f i = f o)) (o + 1) (n - (o + 1))) → True := fun _ => trivial
theorem Z1_split (f : Nat → Nat) {o n : Nat} (ho : o < n) : Z1 f n (f o) = sel (fun i => decide (f i = f o)) 0 o ++ (o : Int) :: sel (fun i => decide (f i = f o)) (o + 1) (n - (o + 1)) := by
  show sel (fun i => decide (f i = f o)) 0 n = _
  have h := sel_add (fun i => decide (f i = f o)) o 0 ((n - (o + 1)) + 1)
  rw [show o + ((n - (o + 1)) + 1) = n by omega, Nat.zero_add] at h
  rw [h]
  show _ ++ (if decide (f o = f o) then _ else _) = _
  simp
theorem Z1_at (f : Nat → Nat) (hf : ∀ i, f i < 32) {o n : Nat} (ho : o < n) : At (Z1 f n) (o : Int) (f o) (sel (fun i => decide (f i = f o)) 0 o) (sel (fun i => decide (f i = f o)) (o + 1) (n - (o + 1))) :=
  ⟨hf o, fun j hj hm => by
    obtain ⟨t, a, b, c, d⟩ := sel_in hm
    obtain rfl : o = t := by omega
    have : f o = j := of_decide_eq_true d
    omega, Z1_split f ho, fun hm => by obtain ⟨t, a, b, c, d⟩ := sel_in hm; omega⟩
theorem Z2_is (f : Nat → Nat) {o n : Nat} (ho : o < n) : upd (Z1 f n) (f o) (sel (fun i => decide (f i = f o)) 0 o ++ sel (fun i => decide (f i = f o)) (o + 1) (n - (o + 1))) = Z2 f o n := by
  funext j
  by_cases e : j = f o
  · subst e
    rw [upd_same]
    show _ = sel (fun i => decide (f i = f o) && decide (i ≠ o)) 0 n
    have h := sel_add (fun i => decide (f i = f o) && decide (i ≠ o)) o 0 ((n - (o + 1)) + 1)
    rw [show o + ((n - (o + 1)) + 1) = n by omega, Nat.zero_add] at h
    rw [h]
    have h1 : sel (fun i => decide (f i = f o) && decide (i ≠ o)) 0 o = sel (fun i => decide (f i = f o)) 0 o := sel_same fun j h1 h2 => by
      have : j ≠ o := by omega
      simp [this]
    have h2 : sel (fun i => decide (f i = f o) && decide (i ≠ o)) o ((n - (o + 1)) + 1) = sel (fun i => decide (f i = f o)) (o + 1) (n - (o + 1)) := by
      show (if decide (f o = f o) && decide (o ≠ o) then _ else _) = _
      simp only [ne_eq, not_true_eq_false, decide_false, Bool.and_false, Bool.false_eq_true, if_false]
      exact sel_same fun j h1 h2 => by
        have : j ≠ o := by omega
        simp [this]
    rw [h1, h2]
  · rw [upd_ne _ _ e]
    exact sel_same fun i h1 h2 => by
      by_cases e2 : i = o
      · subst e2
        have : f i ≠ j := fun e3 => e e3.symm
        simp [this]
      · simp [e2]
theorem Z2_not (f : Nat → Nat) (o n j : Nat) : (o : Int) ∉ Z2 f o n j := fun h => by
  obtain ⟨t, a, b, c, d⟩ := sel_in h
  obtain rfl : o = t := by omega
  simp at d
/-- The rows as they are woken: place a, from i on. -/
def Z3 (f : Nat → Nat) (o n a i : Nat) : Nat → List Int := fun j => if j < a then [] else if j = a then sel (fun i => decide (f i = a) && decide (i ≠ o)) i (n - i) else Z2 f o n j
theorem Z3_at (f : Nat → Nat) (o n a i : Nat) : Z3 f o n a i a = sel (fun i => decide (f i = a) && decide (i ≠ o)) i (n - i) := by
  unfold Z3; rw [if_neg (by omega), if_pos rfl]
theorem Z3_head {f : Nat → Nat} {o n a i : Nat} (hi : i < n) (h1 : f i = a) (h2 : i ≠ o) : Z3 f o n a i a = (i : Int) :: sel (fun i => decide (f i = a) && decide (i ≠ o)) (i + 1) (n - (i + 1)) := by
  rw [Z3_at, show n - i = (n - (i + 1)) + 1 by omega]
  show (if decide (f i = a) && decide (i ≠ o) then _ else _) = _
  simp [h1, h2]
theorem Z3_next {f : Nat → Nat} {o n a i : Nat} : upd (Z3 f o n a i) a (sel (fun i => decide (f i = a) && decide (i ≠ o)) (i + 1) (n - (i + 1))) = Z3 f o n a (i + 1) := by
  funext j
  by_cases e : j = a
  · subst e; rw [upd_same, Z3_at]
  · rw [upd_ne _ _ e]; unfold Z3; rw [if_neg e, if_neg e]
theorem Z3_skip {f : Nat → Nat} {o n a i : Nat} (hi : i < n) (h : f i ≠ a ∨ i = o) : Z3 f o n a i = Z3 f o n a (i + 1) := by
  funext j
  by_cases e : j = a
  · subst e
    rw [Z3_at, Z3_at, show n - i = (n - (i + 1)) + 1 by omega]
    show (if decide (f i = j) && decide (i ≠ o) then _ else _) = _
    rw [if_neg (by rcases h with h | h <;> simp [h])]
  · unfold Z3; rw [if_neg e, if_neg e]
theorem Z3_end {f : Nat → Nat} {o n a : Nat} : Z3 f o n a n a = [] := by rw [Z3_at, Nat.sub_self]; rfl
theorem Z3_place {f : Nat → Nat} {o n a : Nat} : Z3 f o n a n = Z3 f o n (a + 1) 0 := by
  funext j
  unfold Z3
  by_cases e : j < a
  · rw [if_pos e, if_pos (by omega)]
  · rw [if_neg e]
    by_cases e2 : j = a
    · subst e2; rw [if_pos rfl, if_pos (by omega), Nat.sub_self]; rfl
    · rw [if_neg e2, if_neg (by omega)]
      by_cases e3 : j = a + 1
      · subst e3; rw [if_pos rfl]; rfl
      · rw [if_neg e3]
theorem Z3_start {f : Nat → Nat} {o n : Nat} : Z3 f o n 0 0 = Z2 f o n := by
  funext j
  unfold Z3
  rw [if_neg (by omega)]
  by_cases e : j = 0
  · subst e; rw [if_pos rfl]; rfl
  · rw [if_neg e]
theorem Z3_done {f : Nat → Nat} {o n : Nat} {j : Nat} (hj : j < 32) : Z3 f o n 32 0 j = [] := by
  unfold Z3; rw [if_pos hj]
set_option maxRecDepth 100000 in
set_option maxHeartbeats 4000000 in
theorem walk (v0 : Value) (z0 : List Int) (a1 : Int) (w : World) (h0 : Ints w (fun k => k < w.heap.size) v0 z0) (w1 : (Lit.int .i64 a1).wf = true) :
    Calls Try.prog 7 #[v0, .int .i64 a1] w fun e w' => e = .returned (.bool true) ∧ Below w.heap.size w w' := by
  obtain ⟨sp, cap, rfl, hm, hc⟩ := h0
  obtain ⟨n, hn⟩ : ∃ n, z0.length = n := ⟨_, rfl⟩
  rw [hn] at hm hc ⊢
  clear hn
  by_cases hn60 : 60 < n
  · have i1 : (60 : Int) < (n : Int) := by omega
    have ct := told_any w
    clear hc
    go_enter Try.func7, Try.ntmps7
    go_wp2_with fail
    with_reducible refine Calls.mono (ct) ?_
    rintro e w1 ⟨rfl, hb⟩
    clear ct
    go_wp2_with fail
    go_ret
    exact ⟨rfl, hb⟩
  · have i1 : ¬ (60 : Int) < (n : Int) := by omega
    have cn := new_any w
    obtain ⟨f, hf⟩ : ∃ f, f = fz z0 := ⟨_, rfl⟩
    have hf32 : Hid (∀ i, f i < 32) := Lib.hid fun i => by rw [hf]; exact fz_lt _ _
    have hel : Hid (∀ wr, Below w.heap.size w wr → ∀ i, i < n → ∃ b off x Z, sp = some ⟨b, off, none⟩ ∧ wr.cell? ⟨b, off + i, none⟩ = some (.int .i64 x) ∧ IntKind.u64.wrap x = Z ∧ 0 ≤ Z ∧ Z % 32 = (f i : Int)) := Lib.hid fun wr hb i hi => by
      obtain ⟨b, off, e, _, _, h5⟩ := hc i hi
      refine ⟨b, off, _, _, e, cell_then hb h5, rfl, by rw [IntKind.wrap_u64]; omega, by rw [hf]; exact fz_int _ _⟩
    clear hc hf
    go_enter Try.func7, Try.ntmps7
    go_wp2_with fail
    with_reducible refine Calls.mono (cn) ?_
    rintro e w1 ⟨rfl, hs⟩
    clear cn
    have hs : Hid (Sw w w1 w.heap.size (home w.heap.size fun _ => .slice none 0 0) (Z1 f 0)) := Lib.hid hs
    go_wp2_with fail
    go_loopw [6] (fun x wr => ∃ (k : Nat) (H : Home), x = .int .i64 k ∧ k ≤ n ∧ Hid (Sw w wr w.heap.size H (Z1 f k))) (fun x _ => (n - (RowKit.intOf x).toNat))
    case atStart => exact ⟨0, _, rfl, by omega, hs⟩
    case round =>
      clear hs
      obtain ⟨k, H, rfl, k1, hs⟩ := hrel
      by_cases hk : k < n
      · have i2 : (k : Int) < (n : Int) := by omega
        obtain ⟨b, off, x, Z, rfl, c0, hZ, z0', hZ2⟩ := hel.out wr hs.out.out k hk
        have cy := wait_in hs.out (hf32.out k) (k : Int) (fun j hj => Z1_not f k j) (by have := sel_len (fun i => decide (f i = f k)) k 0; show (sel _ 0 k).length < _; omega)
        rw [Z1_more] at cy
        have hfk := hf32.out k
        have i0 : (0 : Int) ≤ (k : Int) := by omega
        generalize f k = fk at *
        clear hs
        go_wp2_with fail
        with_reducible refine Calls.mono cy ?_
        rintro e w2 ⟨rfl, H2, -, hs⟩
        replace hs := Lib.hid hs
        clear cy c0 hZ
        go_wp2_with fail
        go_roundw
        case rel => exact ⟨k + 1, H2, by go_num, by omega, hs⟩
        case measure => simp [RowKit.intOf]; omega
      · obtain rfl : k = n := by omega
        have i2 : ¬ ((k : Int) < (k : Int)) := by omega
        clear hk k1
        by_cases hk0 : k = 0
        · have hk1 : ¬ (0 : Int) < (k : Int) := by omega
          have hs : Hid (Sw w wr w.heap.size H (fun _ => [])) := by have := hs; rw [hk0] at this; exact this
          clear hel hf32 i1 i2 hk0
          go_wp2_with fail
          go_loopw [8] (fun x wq => ∃ a : Nat, x = .int .i64 a ∧ a ≤ 32 ∧ wq = wr) (fun x _ => (32 - (RowKit.intOf x).toNat))
          case atStart => exact ⟨0, rfl, by omega, rfl⟩
          case round =>
            obtain ⟨a, rfl, a1', rfl⟩ := hrel
            obtain ⟨wo, rfl⟩ : ∃ wo : World, wo = wr := ⟨_, rfl⟩
            by_cases ha : a < 32
            · have i3 : (a : Int) < 32 := by omega
              have ck := wake_none hs.out ha rfl
              go_wp2_with fail
              go_loopw [9] (fun x wq => x = .int .i64 0 ∧ wq = wo) (fun x _ => 0)
              case atStart => exact ⟨rfl, rfl⟩
              case round =>
                obtain ⟨rfl, rfl⟩ := hrel
                go_wp2_with fail
                with_reducible refine Calls.mono ck ?_
                rintro e w2 ⟨rfl, rfl⟩
                clear ck
                go_wp2_with fail
                go_roundw
                case rel => exact ⟨a + 1, by go_num, by omega, by first | rfl | trivial⟩
                case measure => simp [RowKit.intOf]; omega
            · obtain rfl : a = 32 := by omega
              have ct := told_any wo
              skip
              go_wp2_with fail
              with_reducible refine Calls.mono ct ?_
              rintro e w8 ⟨rfl, hb8⟩
              have hs := hs.out.below hb8
              clear ct hb8
              have hzz := sum_none (Z := fun _ => []) (fun j hj => rfl)
              have cl := len_any hs (fun k hk => by rw [hzz k hk]; omega)
              rw [hzz 32 (Nat.le_refl _)] at cl
              have hb := hs.out
              clear hs hzz
              go_wp2_with fail
              with_reducible refine Calls.mono cl ?_
              rintro e w9 ⟨rfl, rfl⟩
              clear cl
              go_wp2_with fail
              go_ret
              exact ⟨rfl, hb⟩
        · have kp : (0 : Int) < (k : Int) := by omega
          obtain ⟨Y, hY⟩ : ∃ Y : Int, IntKind.u64.wrap a1 = Y := ⟨_, rfl⟩
          have y1 : 0 ≤ Y := by rw [← hY, IntKind.wrap_u64]; omega
          have hu : IntKind.u64.wrap (k : Int) = (k : Int) := by rw [IntKind.wrap_u64]; omega
          obtain ⟨o, ho⟩ : ∃ o : Nat, Y % (k : Int) = (o : Int) := ⟨(Y % (k : Int)).toNat, by have := Int.emod_nonneg Y (by omega : (k : Int) ≠ 0); omega⟩
          have ok : o < k := by have := Int.emod_lt_of_pos Y (by omega : (0 : Int) < (k : Int)); omega
          have kne : ((k : Int) == 0) = false := by rw [beq_eq_false_iff_ne]; omega
          have cd := del_yes hs.out (o : Int) (Z1_at f hf32.out ok) (by have := sel_len (fun i => decide (f i = f o)) k 0; show (sel _ 0 k).length ≤ _; omega)
          rw [Z2_is f ok] at cd
          clear hs hk0
          go_wp2_with fail
          with_reducible refine Calls.mono cd ?_
          rintro e w2 ⟨rfl, H2, -, hs⟩
          have cd := del_no hs (o : Int) (fun j hj => Z2_not f o k j)
          replace hs := Lib.hid hs
          clear hY y1 hu ho kne
          go_wp2_with fail
          with_reducible refine Calls.mono cd ?_
          rintro e w3 ⟨rfl, rfl⟩
          clear cd
          have hs : Hid (Sw w w2 w.heap.size H2 (Z3 f o k 0 0)) := by rw [Z3_start]; exact hs
          go_wp2_with fail
          go_loopw [8] (fun x wq => ∃ (a : Nat) (H : Home), x = .int .i64 a ∧ a ≤ 32 ∧ Hid (Sw w wq w.heap.size H (Z3 f o k a 0))) (fun x _ => (32 - (RowKit.intOf x).toNat))
          case atStart => exact ⟨0, H2, rfl, by omega, hs⟩
          case round =>
            clear hs
            obtain ⟨a, H, rfl, a1', hs⟩ := hrel
            obtain ⟨wo, rfl⟩ : ∃ wo : World, wo = wr := ⟨_, rfl⟩
            by_cases ha : a < 32
            · have i3 : (a : Int) < 32 := by omega
              go_wp2_with fail
              go_loopw [9] (fun x wq => ∃ (i : Nat) (H : Home), x = .int .i64 i ∧ i ≤ k ∧ Hid (Sw w wq w.heap.size H (Z3 f o k a i))) (fun x _ => (k - (RowKit.intOf x).toNat))
              case atStart => exact ⟨0, H, rfl, by omega, hs⟩
              case round =>
                clear hs
                obtain ⟨i, H, rfl, ik, hs⟩ := hrel
                by_cases hi : i < k
                · have i4 : (i : Int) < (k : Int) := by omega
                  have i0 : (0 : Int) ≤ (i : Int) := by omega
                  by_cases hio : i = o
                  · have hs2 := hs.out
                    rw [Z3_skip hi (.inr hio)] at hs2
                    replace hs2 := Lib.hid hs2
                    subst hio
                    clear hs
                    go_wp2_with fail
                    go_roundw
                    case rel => exact ⟨i + 1, H, by go_num, by omega, hs2⟩
                    case measure => simp [RowKit.intOf]; omega
                  · have hio2 : ((i : Int) == (o : Int)) = false := by rw [beq_eq_false_iff_ne]; omega
                    obtain ⟨b, off, x, Z, rfl, c0, hZ, z0', hZ2⟩ := hel.out wr hs.out.out i hi
                    by_cases hfa : f i = a
                    · have hh := Z3_head hi hfa hio
                      have ck := wake_some hs.out ha hh
                      rw [Z3_next] at ck
                      rw [hfa] at hZ2
                      clear hs hh hfa
                      replace hio := Lib.hid hio
                      go_wp2_with fail
                      with_reducible refine Calls.mono ck ?_
                      rintro e w5 ⟨rfl, H5, -, hs⟩
                      replace hs := Lib.hid hs
                      clear ck c0 hZ
                      go_wp2_with fail
                      go_roundw
                      case rel => exact ⟨i + 1, H5, by go_num, by omega, hs⟩
                      case measure => simp [RowKit.intOf]; omega
                    · have hs2 := hs.out
                      rw [Z3_skip hi (.inl hfa)] at hs2
                      replace hs2 := Lib.hid hs2
                      have hfa2 : ((f i : Int) == (a : Int)) = false := by rw [beq_eq_false_iff_ne]; omega
                      replace hio := Lib.hid hio
                      clear hs hfa
                      generalize f i = fi at *
                      go_wp2_with fail
                      go_roundw
                      case rel => exact ⟨i + 1, H, by go_num, by omega, hs2⟩
                      case measure => simp [RowKit.intOf]; omega
                · obtain rfl : i = k := by omega
                  have i4 : ¬ ((i : Int) < (i : Int)) := by omega
                  have ck := wake_none hs.out ha Z3_end
                  have hs2 := hs.out
                  rw [Z3_place] at hs2
                  replace hs2 := Lib.hid hs2
                  clear hs
                  go_wp2_with fail
                  with_reducible refine Calls.mono ck ?_
                  rintro e w5 ⟨rfl, rfl⟩
                  clear ck
                  go_wp2_with fail
                  go_roundw
                  case rel => exact ⟨a + 1, H, by go_num, by omega, hs2⟩
                  case measure => simp [RowKit.intOf]; omega
            · obtain rfl : a = 32 := by omega
              have ct := told_any wo
              clear hel
              go_wp2_with fail
              with_reducible refine Calls.mono ct ?_
              rintro e w8 ⟨rfl, hb8⟩
              have hs := hs.out.below hb8
              clear ct hb8
              have hzz := sum_none (Z := Z3 f o k 32 0) (fun j hj => Z3_done hj)
              have cl := len_any hs (fun k hk => by rw [hzz k hk]; omega)
              rw [hzz 32 (Nat.le_refl _)] at cl
              have hb := hs.out
              clear hs hzz
              go_wp2_with fail
              with_reducible refine Calls.mono cl ?_
              rintro e w9 ⟨rfl, rfl⟩
              clear cl
              go_wp2_with fail
              go_ret
              exact ⟨rfl, hb⟩

set_option maxRecDepth 100000 in
theorem lifted (os : Os) (started : os.Started) (H : Type) (enc : TypeId × Value → H) :
    ReturnsInHanded {} Try.checked os 7 .any (Rows.waitOrderSpec.pre6 enc Try.prog Try.f7 Rows.waitOrderRow.domain false) (Rows.waitOrderSpec.post enc Try.prog Try.f7 false true false false) := by
  refine returnsInHanded_of_change (C := Try.checked) own started (by kernel_rfl) Try.func7
    (ChangeSpec.witness6 (enc := enc) (C := Try.checked) false ⟨#[], #[.slice none 0 0, .int .i64 0], []⟩ 8 (by kernel_rfl) (by kernel_rfl) (by kernel_rfl) (by kernel_rfl)) ?_
  intro W base args ds gs before hval0 hW hcnd _
  have hval : ∀ (j : Nat) t v, Try.f7.params[j]? = some t → args[j]? = some v → Value.okWide Try.prog W .any base t v := hval0
  have hW' := hW
  obtain ⟨p, q, hA0, hV, rfl, hfz, hnd⟩ := hW
  have hA : DataW.TrodAll enc Try.prog W 0 (fun _ => true) true Try.f7.params.toList args.toList ds p := hA0
  rw [Try.params7] at hA hval
  obtain ⟨v0, vs0, d0, ds0, p0, q0, hargs, rfl, rfl, h0, r0⟩ := trodAll_cons hA
  obtain ⟨v1, vs1, d1, ds1, p1, q1, rfl, rfl, rfl, h1, r1⟩ := trodAll_cons r0
  obtain ⟨rfl, rfl, rfl⟩ := trodAll_nil r1
  obtain rfl : args = #[v0, v1] := by cases args; simp_all
  obtain ⟨rfl, rfl⟩ := trodVars_none hV
  obtain ⟨z0, i0⟩ := arg_ints (hval 0 26 v0 rfl rfl) h0
  obtain ⟨a1, rfl, rfl, rfl, w1⟩ := open_int Try.underlying3 (hval 1 3 v1 rfl rfl) h1
  clear hA0 hval0
  simp only [List.append_nil] at hW'
  have lt0 : ∀ x ∈ p0, x.block < W.heap.size := fun x hx => by have := hW'.lt x (by simp [hx]); simpa using this
  refine (walk v0 z0 a1 W i0 w1).mono fun e W' ⟨he, hg⟩ => ?_
  subst he
  exact ⟨_, rfl, post_of_kept (pa := _) (pv := []) hW' (fun _ _ _ => (trodAll_cons_mk (shut_bool Try.underlying4 _) trodAll_mk0)) (trodAll_cons_mk (Below.trod laidOut (by kernel_rfl) (of_decide_eq_true (by kernel_rfl)) h0 hg lt0) (trodAll_cons_mk (shut_int Try.underlying3 w1) trodAll_mk0)) (fun _ _ => rfl) (by simp) hg⟩

theorem over : Rows.waitOrderRow.holds Try.pinned (OpenSpec.ofChange Rows.waitOrderSpec) :=
  OpenClaim.holds_of_wide 7 Try.f7 rfl rfl rfl rfl rfl rfl rfl ⟨rfl, rfl, rfl, rfl, rfl⟩ rfl rfl rfl rfl rfl (by kernel_rfl) Try.func7 (by kernel_rfl)
    (of_decide_eq_true (by kernel_rfl)) (by unfold Func.isWrapper; first | (rw [if_pos (by decide +kernel)]; kernel_rfl) | (rw [if_neg (by decide +kernel)]; exact ⟨rfl, rfl⟩))
    (fun os started H enc _ => lifted os started H enc)

theorem proved : Rows.WaitOrderSaid :=
  over
#print axioms proved
end Go.Proofs.Ytkpmifkdnndccab.waitOrder
