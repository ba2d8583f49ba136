/- View: what is named, each once (names.add). -/
import Derived.Test.YtneibhcigbfigaaVwMath
import Derived.Test.YtneibhcigbfigaaVwMap
import Derived.Test.YtneibhcigbfigaaGRow
import Derived.StillTailTactics
import Derived.Deep.RegionHeld3
import Derived.Deep.RegionWith
import Derived.RegionTactic
import Derived.BigQuiet
import Derived.Deep.Cut
import Derived.Deep.CutBlock
import Derived.Deep.CutRange
import Derived.Deep.LoopGhost
import Derived.Deep.DeepCutAuto
import Derived.Deep.RegionLaw
import Derived.WalkKit
import Derived.ProofKit
namespace Go.Proofs.Ytneibhcigbfigaa
open Go.RowKit Go.Lib Fx Ho Gr
set_option linter.unusedVariables false
namespace Vw
abbrev WfI (x : Int) : Prop := (Lit.int .i64 x).wf = true
theorem eltI : Elt Try.prog 23 3 1 8 (.int .i64 0) := ⟨Try.underlying23, by kernel_rfl, rfl, by decide, by decide⟩
theorem src_int (g : Int) (w : World) : Src Try.prog 1 23 (.slice (some ⟨w.heap.size, 0, none⟩) 1 1) 1 [.int .i64 g] (w.alloc (.cells #[.int .i64 g] 3)) :=
  src_new (A := #[.int .i64 g]) Try.underlying23 rfl (by simp [Value.oneCell']) (heap_alloc_new w _)
theorem getD_mem {α : Type} {l : List α} {k : Nat} (d : α) (h : k < l.length) : l.getD k d ∈ l := by
  rw [List.getD_eq_getElem?_getD, List.getElem?_eq_getElem h]; exact List.getElem_mem h
theorem zeroI (w : World) : (zeroValue 3).run Try.prog w = .ok (.int .i64 0) w := Try.zeroValue3 w
variable {B w w' W W1 w8 : World} {p mb n i : Nat} {v v8 lv : Value} {all l : List Int} {c : Int → Option Int} {x y : Int} {H H' : Home}
structure Nc (B w : World) (p mb : Nat) (v : Value) (n : Nat) (all : List Int) (c : Int → Option Int) : Prop where
  head : w.heap[p]? = some (.cells #[v, .map (some mb)] 80 (0, 0))
  row : GRow 1 w v all.length (cells all)
  map : Mp.OMap w mb n c
  pm : p ≠ mb
  o1 : v.ownBlock ≠ some p
  o2 : v.ownBlock ≠ some mb
  low : B.heap.size ≤ p ∧ B.heap.size ≤ mb ∧ ∀ k, v.ownBlock = some k → B.heap.size ≤ k
  bel : Below B.heap.size B w
structure Cn (all : List Int) (c : Int → Option Int) (n : Nat) : Prop where
  cn : ∀ x, (c x).getD 0 = 0 ↔ x ∉ all
  cb : ∀ x, 0 ≤ (c x).getD 0 ∧ (c x).getD 0 ≤ n
theorem Cn.mono {n' : Nat} (h : Cn all c n) (hn : n ≤ n') : Cn all c n' := ⟨h.cn, fun x => ⟨(h.cb x).1, by have := (h.cb x).2; omega⟩⟩
theorem Cn.put {all' : List Int} (h : Cn all c n) (hx : (∀ z, z ∈ all' ↔ z ∈ all ∨ z = x)) : Cn all' (Mp.upo c x ((c x).getD 0 + 1)) (n + 1) := by
  have h1 := h.cb x
  refine ⟨fun z => ?_, fun z => ?_⟩
  · unfold Mp.upo
    by_cases e : z = x
    · rw [if_pos e]
      constructor
      · intro e2; have e2 : (c x).getD 0 + 1 = 0 := e2; omega
      · intro e2; exact absurd ((hx z).2 (.inr e)) e2
    · rw [if_neg e, h.cn, hx]
      constructor
      · rintro e2 (e3 | e3)
        · exact e2 e3
        · exact e e3
      · exact fun e2 e3 => e2 (.inl e3)
  · unfold Mp.upo
    by_cases e : z = x
    · rw [if_pos e]; show 0 ≤ (c x).getD 0 + 1 ∧ (c x).getD 0 + 1 ≤ _; omega
    · rw [if_neg e]; have := h.cb z; omega
theorem below_w (hb : Below B.heap.size B w) (hw : Wrote H w H' w') (hH : ∀ k, H k → B.heap.size ≤ k) : Below B.heap.size B w' := hw.below (W := B) (fun k hk => hH k hk) hb
theorem Nc.below (h : Nc B w p mb v n all c) (hb : Below w.heap.size w w') : Nc B w' p mb v n all c :=
  ⟨(hb.block p (block_lt h.head)).trans h.head, h.row.below hb, h.map.below hb, h.pm, h.o1, h.o2, h.low, h.bel.trans (hb.mono h.bel.size)⟩
theorem Nc.look (h : Nc B w p mb v n all c) (hx : WfI x) : (Instr.lookup 78 (.map (some mb)) (.int .i64 x) false).run Try.prog w = .ok (.int .i64 ((c x).getD 0)) w :=
  h.map.look1 Try.underlying78 (zeroI w) hx
theorem Nc.bump (h : Nc B w p mb v n all c) (hx : WfI x) (hn : n ≤ 1000000) (y : Int) : ∃ w', (Instr.mapUpdate 78 (.map (some mb)) (.int .i64 x) (.int .i64 y)).run Try.prog w = .ok () w' ∧ Nc B w' p mb v (n + 1) all (Mp.upo c x y) := by
  obtain ⟨w', hr, h1, h2⟩ := h.map.store (t := 78) Try.underlying78 (by unfold maxLen; omega) hx y
  exact ⟨w', hr, ⟨(h2.block p (block_lt h.head) (fun e => h.pm e)).trans h.head, h.row.wrote h2 (fun k hk e => h.o2 (by rw [hk, e])), h1, h.pm, h.o1, h.o2, h.low, below_w h.bel h2 (fun k e => by rw [e]; exact h.low.2.1)⟩⟩
theorem Nc.push (h : Nc B W p mb v n all c) (hb : Below W.heap.size W W1) (hrow : GRow 1 w8 v8 (all.length + 1) (cells all ++ [.int .i64 x])) (hw : Wrote (fun k => v.ownBlock = some k) W1 (fun k => v8.ownBlock = some k) w8) : w8.cell? ⟨p, 0, none⟩ = some v ∧ w8.frozen? ⟨p, 0, none⟩ = false ∧ Nc B (w8.setCell ⟨p, 0, none⟩ v8) p mb v8 n (all ++ [x]) c := by
  have h1 := h.below hb
  have hR := block_lt h.head
  have hM := h.map.lt
  have hsz := hb.size
  have hR8 : w8.heap[p]? = _ := (hw.block p (by omega) (fun e => h.o1 e)).trans h1.head
  have hv8 : v8.ownBlock ≠ some p := fun e => (hw.home p e).elim h.o1 (fun e2 => by omega)
  have hv9 : v8.ownBlock ≠ some mb := fun e => (hw.home mb e).elim h.o2 (fun e2 => by omega)
  have w2 : Wrote (fun k => k = p) w8 (fun k => k = p) (w8.setCell ⟨p, 0, none⟩ v8) := wrote_setCell (a := ⟨p, 0, none⟩) rfl rfl rfl rfl rfl
  have hB := h.bel.size
  refine ⟨cell_of hR8 rfl, frozen_of_row _ _ _ _ _ hR8, ⟨by rw [heap_setCell_same _ p 0 _ _ v8 hR8]; rfl, ?_, (h1.map.wrote hw (fun e => h.o2 e)).wrote w2 (fun e => h.pm e.symm), h.pm, hv8, hv9, ⟨h.low.1, h.low.2.1, fun k hk => (hw.home k hk).elim (h.low.2.2 k) (fun e => by omega)⟩, below_w (below_w h1.bel hw (fun k hk => h.low.2.2 k hk)) w2 (fun k e => by rw [e]; exact h.low.1)⟩⟩
  rw [List.length_append, List.length_singleton, cells_app]
  exact hrow.wrote w2 (fun k hk e => hv8 (by rw [hk, e]))
/-- What is named, each once; how many have come. -/
def Nm (B w : World) (p mb : Nat) (v : Value) (n : Nat) (all : List Int) : Prop := ∃ c, Nc B w p mb v n all c ∧ Cn all c n
theorem Nm.skip (h : Nm B w p mb v n all) : Nm B w p mb v (n + 1) all := by
  obtain ⟨c, h1, h2⟩ := h
  exact ⟨c, ⟨h1.head, h1.row, h1.map.mono (Nat.le_succ n), h1.pm, h1.o1, h1.o2, h1.low, h1.bel⟩, h2.mono (Nat.le_succ n)⟩
theorem Nm.mono {n' : Nat} (h : Nm B w p mb v n all) (hn : n ≤ n') : Nm B w p mb v n' all := by
  obtain ⟨c, h1, h2⟩ := h
  exact ⟨c, ⟨h1.head, h1.row, h1.map.mono hn, h1.pm, h1.o1, h1.o2, h1.low, h1.bel⟩, h2.mono hn⟩
theorem Nm.below (h : Nm B w p mb v n all) (hb : Below w.heap.size w w') : Nm B w' p mb v n all := by
  obtain ⟨c, h1, h2⟩ := h
  exact ⟨c, h1.below hb, h2⟩
def NmR (B : World) (p mb n : Nat) (all : List Int) (e : Ending) (w' : World) : Prop := e = .returned (.tuple #[]) ∧ ∃ v', Nm B w' p mb v' n all
set_option maxRecDepth 100000 in
set_option maxHeartbeats 4000000 in
theorem add_any (h : Nm B w p mb v n all) (hl : Ints B (fun _ => True) lv l) (hwf : ∀ x ∈ l, WfI x) (hn : n + l.length ≤ 100000) (hal : all.length + l.length ≤ 100000) : Calls Try.prog 61 #[.pointer (some ⟨p, 0, none⟩), lv] w (NmR B p mb (n + l.length) (adds all l)) := by
  obtain ⟨sp, cap, rfl, hmx, hcell⟩ := hl
  obtain ⟨m, hm0⟩ : ∃ m, l.length = m := ⟨_, rfl⟩
  have hat : Hid (∀ i, i < m → ∃ b off, sp = some ⟨b, off, none⟩ ∧ B.cell? ⟨b, off + i, none⟩ = some (.int .i64 (l.getD i 0))) := Lib.hid fun i hi => by
    obtain ⟨b, off, e, _, _, hc⟩ := hcell i (by omega)
    exact ⟨b, off, e, hc⟩
  have hzz : Hid (∀ i, i < m → WfI (l.getD i 0)) := Lib.hid fun i hi => hwf _ (getD_mem 0 (by omega))
  have st : Hid (Nm B w p mb v (n + 0) (adds all (l.take 0))) := Lib.hid h
  have hfin : Hid (∀ W v', Nm B W p mb v' (n + m) (adds all (l.take m)) → NmR B p mb (n + m) (adds all l) (.returned (.tuple #[])) W) := Lib.hid fun W v' hra => by
    rw [List.take_of_length_le (by omega)] at hra
    exact ⟨rfl, v', hra⟩
  have hnx0 : Hid (∀ i, i < m → adds all (l.take (i + 1)) = once (adds all (l.take i)) (l.getD i 0)) := Lib.hid fun i hi => adds_next l all (by omega)
  have hln : Hid (∀ i, (adds all (l.take i)).length ≤ all.length + m) := Lib.hid fun i => by
    have := adds_le (l.take i) all
    have := List.length_take_le i l
    have : (l.take i).length ≤ l.length := by rw [List.length_take]; omega
    omega
  rw [hm0] at hmx hn hal ⊢
  clear h hcell hwf hm0
  go_enter Try.func61, Try.ntmps61
  go_wp2_with fail
  go_loopw [8] (fun u wr => ∃ (i : Nat) (v' : Value), u = .int .i64 i ∧ i ≤ m ∧ Hid (Nm B wr p mb v' (n + i) (adds all (l.take i)))) (fun u _ => (m - (RowKit.intOf u).toNat))
  case atStart => exact ⟨0, v, rfl, by omega, st⟩
  case round =>
    obtain ⟨i, v', rfl, hi, hra⟩ := hrel
    clear st
    by_cases hlt : i < m
    · obtain ⟨b, off, rfl, cz0⟩ := hat.out i hlt
      obtain ⟨c, hc, hcn⟩ := hra.out
      have cz := (hc.bel.cell (World.block_lt_of_cell? B _ cz0)).trans cz0
      have z0 := hzz.out i hlt
      have hnx1 := hnx0.out i hlt
      have hll := hln.out i
      have i2 : (i : Int) < (m : Int) := by omega
      have i0 : (0 : Int) ≤ (i : Int) := by omega
      obtain ⟨x, hxe⟩ : ∃ x, l.getD i 0 = x := ⟨_, rfl⟩
      rw [hxe] at cz z0 hnx1
      obtain ⟨al, hale⟩ : ∃ al, adds all (l.take i) = al := ⟨_, rfl⟩
      rw [hale] at hc hcn hnx1 hll hra
      by_cases hx0 : x = 0
      · have hnx : Hid (Nm B wr p mb v' (n + (i + 1)) (adds all (l.take (i + 1)))) := Lib.hid (by rw [hnx1]; unfold once; rw [if_pos (.inl hx0)]; exact hra.out.skip)
        subst hx0
        clear hra hxe hc hcn hnx1 hale cz0
        go_wp2_with fail
        go_roundw
        case rel => exact ⟨i + 1, v', by go_num, by omega, hnx⟩
        case measure => simp [RowKit.intOf]; omega
      · have c0 : wr.cell? ⟨p, 0, none⟩ = some v' := cell_of hc.head rfl
        have c1 : wr.cell? ⟨p, 1, none⟩ = some (.map (some mb)) := cell_of hc.head rfl
        have hlk := hc.look z0
        have hcb := hcn.cb x
        have xb1 : (x == 0) = false := beq_eq_false_iff_ne.2 hx0
        have xb2 : decide (x = 0) = false := decide_eq_false hx0
        obtain ⟨y, hye⟩ : ∃ y, (c x).getD 0 = y := ⟨_, rfl⟩
        rw [hye] at hlk hcb
        have ew : IntKind.i64.wrap (y + 1) = y + 1 := by rw [IntKind.wrap_i64]; omega
        by_cases hin : x ∈ al
        · have hy0 : ¬ y = 0 := fun e => (hcn.cn x).1 (hye.trans e) hin
          have yb1 : (y == 0) = false := beq_eq_false_iff_ne.2 hy0
          obtain ⟨w6, hrun, hc6⟩ := hc.bump z0 (by omega) (y + 1)
          have hnx : Hid (Nm B w6 p mb v' (n + (i + 1)) (adds all (l.take (i + 1)))) := Lib.hid (by
            rw [hnx1]; unfold once; rw [if_pos (.inr hin)]
            refine ⟨_, hc6, ?_⟩
            rw [← hye]
            exact hcn.put fun z => ⟨.inl, fun e => e.elim id (fun e2 => by rw [e2]; exact hin)⟩)
          clear hra hxe hc hcn hnx1 hale hye hc6 hin cz0
          go_wp2_with fail
          go_roundw
          case rel => exact ⟨i + 1, v', by go_num, by omega, hnx⟩
          case measure => simp [RowKit.intOf]; omega
        · have hy0 : y = 0 := by rw [← hye]; exact (hcn.cn x).2 hin
          rw [hy0] at hlk
          obtain ⟨s2, c2, e2⟩ := hc.row.slice
          have hbd : al.length + 1 ≤ 1000000 := by omega
          have hrow : Hid (GRow 1 (wr.alloc (.cells #[.int .i64 x] 3)) (.slice s2 al.length c2) al.length (cells al)) := Lib.hid (by have := hc.row.below (below_alloc (Below.refl wr.heap.size wr) (.cells #[.int .i64 x] 3)); rw [e2] at this; exact this)
          have hsrc := Lib.hid (src_int x wr)
          have key : Hid (∀ u8 w8, GRow 1 w8 u8 (al.length + 1) (cells al ++ [.int .i64 x]) → Wrote (fun k => (Value.slice s2 al.length c2).ownBlock = some k) (wr.alloc (.cells #[.int .i64 x] 3)) (fun k => u8.ownBlock = some k) w8 → (∃ s c, u8 = .slice s (al.length + 1) c) ∧ w8.cell? ⟨p, 0, none⟩ = some (.slice s2 al.length c2) ∧ w8.frozen? ⟨p, 0, none⟩ = false ∧ w8.cell? ⟨p, 1, none⟩ = some (.map (some mb)) ∧ (Instr.lookup 78 (.map (some mb)) (.int .i64 x) false).run Try.prog (w8.setCell ⟨p, 0, none⟩ u8) = .ok (.int .i64 0) (w8.setCell ⟨p, 0, none⟩ u8) ∧ ∃ w6, (Instr.mapUpdate 78 (.map (some mb)) (.int .i64 x) (.int .i64 1)).run Try.prog (w8.setCell ⟨p, 0, none⟩ u8) = .ok () w6 ∧ Hid (Nm B w6 p mb u8 (n + (i + 1)) (adds all (l.take (i + 1))))) := Lib.hid fun u8 w8 g1 g2 => by
            obtain ⟨k0, k1, k2⟩ := hc.push (below_alloc (Below.refl wr.heap.size wr) (.cells #[.int .i64 x] 3)) g1 (by rw [e2]; exact g2)
            rw [e2] at k0
            have k3 := k2.look z0
            rw [hye, hy0] at k3
            obtain ⟨w6, k4, k5⟩ := k2.bump z0 (by omega) 1
            have k6 : (w8.setCell ⟨p, 0, none⟩ u8).cell? ⟨p, 1, none⟩ = some (.map (some mb)) := cell_of k2.head rfl
            rw [World.cell?_setCell_other _ _ _ _ (show (⟨p, 0, none⟩ : Addr) ≠ ⟨p, 1, none⟩ from fun h => by have := congrArg Addr.off h; simp at this)] at k6
            refine ⟨g1.slice, k0, k1, k6, k3, w6, k4, Lib.hid ?_⟩
            rw [hnx1]; unfold once; rw [if_neg (fun e => e.elim hx0 hin)]
            refine ⟨_, k5, ?_⟩
            have := hcn.put (x := x) (all' := al ++ [x]) fun z => by rw [List.mem_append, List.mem_singleton]
            rw [hye, hy0] at this
            exact this
          rw [e2] at c0
          clear hra hxe hc hcn hnx1 hale hye hin cz0 ew hcb hy0 e2
          generalize al.length = t1 at *
          go_wp2_with (at_builtin; refine wpList_append_g rfl (.tmp 25) (.tmp 27) rfl rfl eltI hrow.out rfl rfl hsrc.out hbd ?_; intro u8 w8 g1 g2; have hk := key.out u8 w8 g1 g2; obtain ⟨⟨s8, c8, rfl⟩, hc8, hf8, hc9, hlk9, w6, hrun, hnx⟩ := hk; clear key g1 g2 hrow hsrc)
          go_roundw
          case rel => exact ⟨i + 1, _, by go_num, by omega, hnx⟩
          case measure => simp [RowKit.intOf]; omega
    · obtain rfl : i = m := by omega
      have hf := Lib.hid (hfin.out wr v' hra.out)
      clear hra
      go_wp2_with fail
      go_end0
      exact hf.out
end Vw
end Go.Proofs.Ytneibhcigbfigaa
