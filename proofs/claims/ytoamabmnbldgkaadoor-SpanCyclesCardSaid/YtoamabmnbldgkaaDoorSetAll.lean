/- What New and All of a set answer: a new empty set of any size up to 2^24; all that is in a set, rising. -/
import Derived.Test.YtoamabmnbldgkaaDoorSetNext
import Derived.Deep.LoopGhost
import Derived.OwnWalk
namespace Go.Proofs.YtoamabmnbldgkaaDoor
open Go.RowKit Go.Lib Fx Bm
set_option linter.unusedVariables false

theorem word_none (j : Nat) : word (fun _ => false) j = 0 := by
  apply Nat.eq_of_testBit_eq
  intro t
  rw [word_bit, Nat.zero_testBit, Bool.and_false]
theorem isSet_new (w : World) (n : Nat) (hn : n ≤ 16777216) : IsSet ((w.alloc (.cells (madeCells #[.int .u64 0] ((n + 63) / 64)) 65)).alloc (.cells #[.int .i64 n, .slice (some ⟨w.heap.size, 0, none⟩) ((n + 63) / 64) ((n + 63) / 64)] 64)) (w.heap.size + 1) w.heap.size n (fun _ => false) := by
  refine ⟨heap_alloc2_new _ _ _, ?_, hn, fun _ _ => rfl, by omega⟩
  have h := (World.rowIs_made w (.int .u64 0) ((n + 63) / 64) 65).alloc (.cells #[.int .i64 n, .slice (some ⟨w.heap.size, 0, none⟩) ((n + 63) / 64) ((n + 63) / 64)] 64)
  exact h.congr fun j _ => by rw [word_none]; rfl
theorem infoU : (Tryd.prog.info? 65).map (fun i => (i.zero, i.size, i.bytes)) = some (some (.int .u64 0), 1, 8) := by kernel_rfl
theorem infoI : (Tryd.prog.info? 3).map (fun i => (i.zero, i.size, i.bytes)) = some (some (.int .i64 0), 1, 8) := by kernel_rfl
/-- A new empty set of the numbers below n. -/
def NewSet (w : World) (n : Nat) (e : Ending) (w' : World) : Prop := e = .returned (.pointer (some ⟨w.heap.size + 1, 0, none⟩)) ∧ Below w.heap.size w w' ∧ IsSet w' (w.heap.size + 1) w.heap.size n (fun _ => false)
set_option maxRecDepth 100000 in
set_option maxHeartbeats 1000000 in
theorem setnew_any (n : Nat) (hn : n ≤ 16777216) (w : World) : Calls Tryd.prog 9 #[.int .i64 n] w (NewSet w n) := by
  have hs := isSet_new w n hn
  have hmk := run_make_row' (P := Tryd.prog) 62 65 (.int .u64 0) 8 Tryd.underlying62 infoU rfl .i64 .i64 ((n + 63) / 64) (by omega) (by omega)
  have hdiv : ((n : Int) + 64 - 1) / 64 = (((n + 63) / 64 : Nat) : Int) := by omega
  have n0 : (0 : Int) ≤ n := Int.natCast_nonneg n
  generalize (n + 63) / 64 = m at *
  have hs : Hid _ := hs
  go_enter Tryd.func9, Tryd.ntmps9
  go_wp2_with fail
  go_ret
  exact ⟨rfl, below_alloc (below_alloc (Below.refl _ _) _) _, hs.out⟩
set_option maxRecDepth 100000 in
set_option maxHeartbeats 1000000 in
theorem setnew_neg (i : Int) (hi : i < 0) (w : World) : Calls Tryd.prog 9 #[.int .i64 i] w (NewSet w 0) := by
  have hs := isSet_new w 0 (by omega)
  have hmk : ∀ w, (Instr.makeSlice 62 (.int .i64 0) (.int .i64 0)).run Tryd.prog w = .ok (.slice (some ⟨w.heap.size, 0, none⟩) 0 0) (w.alloc (.cells (madeCells #[.int .u64 0] 0) 65)) := run_make_row' (P := Tryd.prog) 62 65 (.int .u64 0) 8 Tryd.underlying62 infoU rfl .i64 .i64 0 (by omega) (by omega)
  have hs : Hid _ := hs
  go_enter Tryd.func9, Tryd.ntmps9
  go_wp2_with fail
  go_ret
  exact ⟨rfl, below_alloc (below_alloc (Below.refl _ _) _) _, hs.out⟩

theorem news_one (w : World) (x : Value) (t : TypeId) : ∀ j u, ([x] : List Value)[j]? = some u → (w.alloc (.cells #[x] t)).cell? ((⟨w.heap.size, 0, none⟩ : Addr).add j) = some u := fun j u h => by
  cases j with
  | zero =>
    simp at h
    subst h
    unfold World.cell?
    show (match (w.alloc (.cells #[x] t)).heap[w.heap.size]? with | some (.cells c _ _) => _ | _ => _) = _
    rw [heap_alloc_new]
    rfl
  | succ j => simp at h
/-- What is in a set below q, rising. -/
def mem (M : Nat → Bool) (q : Nat) : List Nat := (List.range q).filter M
theorem mem_succ (M : Nat → Bool) (q : Nat) : mem M (q + 1) = mem M q ++ (if M q then [q] else []) := by
  unfold mem
  rw [List.range_succ, List.filter_append]
  cases h : M q <;> simp [h]
theorem mem_len (M : Nat → Bool) : ∀ q, (mem M q).length = cnt M q
  | 0 => rfl
  | q + 1 => by
    have e : cnt M (q + 1) = cnt M q + (if M q then 1 else 0) := rfl
    rw [mem_succ, List.length_append, mem_len M q, e]
    cases M q <;> rfl
theorem mem_skip {M : Nat → Bool} {q k : Nat} (h : q ≤ k) (hn : ∀ r, q ≤ r → r < k → M r ≠ true) : mem M k = mem M q := by
  obtain ⟨d, rfl⟩ : ∃ d, k = q + d := ⟨k - q, by omega⟩
  induction d with
  | zero => rfl
  | succ d ih =>
    rw [show q + (d + 1) = (q + d) + 1 from rfl, mem_succ, if_neg (hn (q + d) (by omega) (by omega)), List.append_nil]
    exact ih (by omega) fun r h1 h2 => hn r h1 (by omega)
theorem IsSet.below {w w' : World} {p b n : Nat} {M : Nat → Bool} (h : IsSet w p b n M) (hb : Below w.heap.size w w') : IsSet w' p b n M :=
  ⟨by rw [hb.block p h.lt]; exact h.head, h.row.of_block (hb.block b h.row.lt), h.small, h.out, h.ne⟩
theorem TabAt.lt {w : World} (h : TabAt w) : 0 < w.heap.size := World.block_lt_of_cell? w _ (h 0 (by decide))
theorem TabAt.below {w w' : World} (h : TabAt w) (hb : Below w.heap.size w w') : TabAt w' := fun j hj => cell_then hb (h j hj)
/-- The call answers a slice of its own that holds the numbers xs. -/
def List_ (w : World) (xs : List Nat) (e : Ending) (w' : World) : Prop := ∃ v, e = .returned v ∧ Below w.heap.size w w' ∧ w'.ownsRow w.heap.size 3 1 v xs.length (xs.map fun (x : Nat) => Value.int .i64 x)
set_option maxRecDepth 100000 in
set_option maxHeartbeats 2000000 in
theorem setall_any {p b n : Nat} {M : Nat → Bool} (w : World) (h : IsSet w p b n M) (hT : TabAt w) : Calls Tryd.prog 23 #[.pointer (some ⟨p, 0, none⟩)] w (List_ w (mem M n)) := by
  have cc := setcount_any w h
  have cl := cnt_le M n
  have hs := h.small
  have hmk : ∀ w, (Instr.makeSlice 27 (.int .i64 0) (.int .i64 (cnt M n : Nat))).run Tryd.prog w = .ok (.slice (some ⟨w.heap.size, 0, none⟩) 0 (cnt M n)) (w.alloc (.cells (madeCells #[.int .i64 0] (cnt M n)) 3)) := fun w => by
    obtain ⟨i, hi, hzz⟩ := Option.map_eq_some_iff.1 infoI
    simp only [Prod.mk.injEq] at hzz
    obtain ⟨hz, hsz, hb⟩ := hzz
    have hr := run_make (P := Tryd.prog) w 27 3 i _ Tryd.underlying27 hi hz .i64 .i64 0 (cnt M n) (by omega) (by omega) (by rw [hb]; omega) (by omega)
    rw [hsz, Nat.mul_one, Int.toNat_natCast] at hr
    exact hr
  have cn := fun (i : Int) w' (hb : Below w.heap.size w w') => setnext_any (p := p) (b := b) (n := n) (M := M) i true w' (h.below hb) (hT.below hb)
  have cn0 : ∀ w', Below w.heap.size w w' → Calls Tryd.prog 16 #[.pointer (some ⟨p, 0, none⟩), .int .i64 0, .bool true] w' (Same (.int .i64 (nextI M n 0 true)) w') := fun w' hb => cn 0 w' hb
  have cn1 : Hid (∀ (k : Nat) w', Below w.heap.size w w' → Calls Tryd.prog 16 #[.pointer (some ⟨p, 0, none⟩), .int .i64 ((k : Int) + 1), .bool true] w' (Same (.int .i64 (nextI M n (k + 1) true)) w')) := fun k w' hb => cn ((k : Int) + 1) w' hb
  obtain ⟨i0, hi, hz0, hz1, hz2⟩ := info_parts infoI
  generalize cnt M n = C at *
  clear h hT cn
  go_enter Tryd.func23, Tryd.ntmps23
  go_wp2_with (first | (go_at_call 20; ((with_reducible refine cc.mono ?_); rintro e w' ⟨rfl, a, rfl⟩)) | (go_at_call 16; ((with_reducible refine (cn0 _ ?_).mono ?_); (repeat (first | assumption | exact Below.refl _ _ | refine below_drewN ?_ _ | refine below_alloc ?_ _)); rintro e w' ⟨rfl, rfl⟩)))
  go_loopg [3, 4] n (fun g v u wr => ∃ q : Nat, q + g = n ∧ u = .int .i64 (nextI M n q true) ∧ wr.ownsRow w.heap.size 3 1 v (mem M q).length ((mem M q).map fun (x : Nat) => Value.int .i64 x) ∧ Below w.heap.size w wr)
  case atStart => exact ⟨0, by omega, rfl, ⟨rfl, Or.inr ⟨w.heap.size, C, _, rfl, Nat.le_refl _, heap_alloc_new w _, Nat.zero_le _, by unfold maxLen; omega, by rw [size_madeCells]; simp, rfl⟩⟩, below_drewN (below_alloc (Below.refl _ _) _) _⟩
  case round =>
    obtain ⟨q, hq, rfl, hown, hb⟩ := hrel
    rcases next_ways M n q true with ⟨e, hno⟩ | ⟨k, e, k1, k2, k3, k4⟩
    · have hm := mem_skip (M := M) (q := q) (k := n) (by omega) hno
      rw [← hm] at hown
      clear hm hno
      go_wp2_with fail
      go_ret
      exact ⟨_, rfl, hb, hown⟩
    · have hm := mem_skip (M := M) (q := q) (k := k) k1 k4
      have hm2 := mem_succ M k
      rw [if_pos k3, hm] at hm2
      have hlen : (mem M q).length ≤ n := by rw [mem_len]; exact Nat.le_trans (cnt_le _ _) (by omega)
      have hbs := hb.size
      have hap : ∀ (v' : Value) (w1 : World), w1.ownsRow w.heap.size 3 1 v' ((mem M q).length + 1) (((mem M q).map fun (x : Nat) => Value.int .i64 x) ++ [.int .i64 k]) → w1.ownsRow w.heap.size 3 1 v' (mem M (k + 1)).length ((mem M (k + 1)).map fun (x : Nat) => Value.int .i64 x) := fun v' w1 h => by
        rw [hm2, List.length_append, List.map_append]
        exact h
      have hap' : Hid _ := hap
      clear hap
      have kn : (k : Int) ≤ 16777216 := by omega
      have k0 : (0 : Int) ≤ k := Int.natCast_nonneg k
      clear hm hm2 k3 k4
      go_wp2_with (at_builtin; refine wpList_append_own _ rfl _ _ 27 rfl w.heap.size 3 i0 (.int .i64 0) 1 8 Tryd.underlying27 hi hz0 hz1 hz2 rfl (by decide) _ _ _ rfl (hown.alloc _) ⟨wr.heap.size, 0, none⟩ 1 1 [.int .i64 k] rfl rfl (news_one wr (.int .i64 k) 3) (fun x hx => by simp at hx; subst hx; rfl) (by unfold maxLen; omega) (by omega) (hb.alloc hbs _).size ?_; intro v' w1 hown' hgrow hnil)
      have hb1 : Below w.heap.size w w1 := Below.grown (hb.alloc hbs _) hgrow (hb.alloc hbs _).size (fun j hj => (hown.lt j hj).1)
      refine (cn1.out k _ hb1).mono ?_
      rintro e w' ⟨rfl, rfl⟩
      have hap := hap'.out _ _ hown'
      clear hown hown' hgrow hnil
      go_wp2_with fail
      go_roundg (n - (k + 1))
      case measure => omega
      case rel => exact ⟨k + 1, by omega, rfl, hap, hb1⟩
end Go.Proofs.YtoamabmnbldgkaaDoor
