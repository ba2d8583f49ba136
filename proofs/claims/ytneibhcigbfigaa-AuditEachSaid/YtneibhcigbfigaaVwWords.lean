/- View: how many words all objects take up (view.Words). -/
import Derived.Test.YtneibhcigbfigaaVwWk
import Derived.Test.YtneibhcigbfigaaClass
namespace Go.Proofs.Ytneibhcigbfigaa
open Go.RowKit Go.Lib Fx Ho Gr
set_option linter.unusedVariables false
namespace Vw
variable {w w' W : World} {vo vg vs v : Value} {os : List Ob} {V : Vi}
def sz (o : Ob) : Int := Go.Proofs.Ytneibhcigbfigaa.Cl.sizeI (Go.Proofs.Ytneibhcigbfigaa.Cl.ofI (o.2.1.length : Int))
/-- The words of the first k. -/
def wdN (os : List Ob) : Nat → Int
  | 0 => 0
  | k + 1 => wdN os k + sz (os.getD k o0)
def wds (os : List Ob) : Int := wdN os os.length
theorem sz_le (o : Ob) : 0 ≤ sz o ∧ sz o ≤ 256 := by
  unfold sz
  by_cases h : 1 ≤ (o.2.1.length : Int) ∧ (o.2.1.length : Int) ≤ 256
  · obtain ⟨h1, h2, _⟩ := Go.Proofs.Ytneibhcigbfigaa.Cl.of_in h.1 h.2
    have := Go.Proofs.Ytneibhcigbfigaa.Cl.size_in h1 h2
    omega
  · rw [Go.Proofs.Ytneibhcigbfigaa.Cl.of_none (by omega), Go.Proofs.Ytneibhcigbfigaa.Cl.size_out (.inl (by decide))]
    exact ⟨Int.le_refl _, by decide⟩
theorem wdN_le (os : List Ob) : ∀ k, 0 ≤ wdN os k ∧ wdN os k ≤ 256 * (k : Int)
  | 0 => ⟨Int.le_refl _, by show (0 : Int) ≤ _; omega⟩
  | k + 1 => by
    have h1 := wdN_le os k
    have h2 := sz_le (os.getD k o0)
    show 0 ≤ wdN os k + sz (os.getD k o0) ∧ wdN os k + sz (os.getD k o0) ≤ _
    omega
set_option maxRecDepth 100000 in
set_option maxHeartbeats 2000000 in
theorem words_any (h : IsV w V vg vs vo) (hf : Fw V) : Calls Try.prog 32 #[vv V vg vs vo] w fun e w' => e = .returned (.int .i64 (wds V.os)) ∧ Below w.heap.size w w' := by
  obtain ⟨W1, hW1⟩ : ∃ W1, w.alloc (.cells #[.int .i64 V.ph, .int .i64 V.cy, .int .i64 V.ck, vg, vs, vo, .int .i64 V.gr, .int .i64 V.nt, .int .i64 V.rt] 32) = W1 := ⟨_, rfl⟩
  have hb1 := below_alloc (Below.refl _ w) (.cells #[.int .i64 V.ph, .int .i64 V.cy, .int .i64 V.ck, vg, vs, vo, .int .i64 V.gr, .int .i64 V.nt, .int .i64 V.rt] 32)
  have k1 := heap_alloc_new w (.cells #[.int .i64 V.ph, .int .i64 V.cy, .int .i64 V.ck, vg, vs, vo, .int .i64 V.gr, .int .i64 V.nt, .int .i64 V.rt] 32)
  rw [hW1] at hb1 k1
  have ho := (h.below hb1).os
  obtain ⟨sp, cap, rfl, hmx, hos⟩ := ho
  obtain ⟨m, hm0⟩ : ∃ m, V.os.length = m := ⟨_, rfl⟩
  have hm40 : m ≤ 40 := by rw [← hm0]; exact hf.os
  have c5 : W1.cell? ⟨w.heap.size, 5, none⟩ = some (.slice sp V.os.length cap) := cell_of k1 rfl
  have hat : Hid (∀ i, i < m → ∃ b off sp2 p2, sp = some ⟨b, off, none⟩ ∧ W1.cell? ⟨b, off + i * 3, none⟩ = some (.int .i64 (V.os.getD i o0).1) ∧ W1.cell? ⟨b, off + i * 3 + 1, none⟩ = some (.slice sp2 (V.os.getD i o0).2.1.length p2) ∧ W1.cell? ⟨b, off + i * 3 + 2, none⟩ = some (.bool (V.os.getD i o0).2.2)) := Lib.hid fun i hi => by
    obtain ⟨b, off, sv, e1, _, e3, e4, e5, e6⟩ := hos i (by omega)
    obtain ⟨sp2, p2, rfl, _⟩ := e6
    exact ⟨b, off, sp2, p2, e1, e3, e4, e5⟩
  have hsum : Hid (∀ i, wdN V.os (i + 1) = wdN V.os i + sz (V.os.getD i o0)) := Lib.hid fun i => rfl
  have hbd : Hid (∀ i, 0 ≤ wdN V.os i ∧ wdN V.os i ≤ 256 * (i : Int)) := Lib.hid (wdN_le V.os)
  have hsz : Hid (∀ i, 0 ≤ sz (V.os.getD i o0) ∧ sz (V.os.getD i o0) ≤ 256) := Lib.hid fun i => sz_le _
  have hst : Hid (Below w.heap.size w W1) := Lib.hid hb1
  have hend : Hid (wds V.os = wdN V.os m) := Lib.hid (by unfold wds; rw [hm0])
  have hz : wdN V.os 0 = 0 := rfl
  unfold vv
  rw [hm0] at hmx c5 hW1 ⊢
  clear h hf hos k1 hb1 hm0
  go_enter Try.func32, Try.ntmps32
  go_upto_region 1 with fail
  try rw [hW1]
  clear hW1
  go_wp2_with fail
  go_loopw [3, 9] (fun u3 u9 wr => ∃ (i : Nat) (z : Int), u3 = .int .i64 z ∧ u9 = .int .i64 i ∧ i ≤ m ∧ Hid (z = wdN V.os i) ∧ Hid (Below W1.heap.size W1 wr)) (fun _ u _ => (m - (RowKit.intOf u).toNat))
  case atStart => exact ⟨0, 0, rfl, rfl, by omega, Lib.hid rfl, Lib.hid (Below.refl _ _)⟩
  case round =>
    obtain ⟨i, z, rfl, rfl, hi, hzz, hbw⟩ := hrel
    clear c5 hz
    have i0 : (0 : Int) ≤ (i : Int) := by omega
    by_cases hlt : i < m
    · have i2 : (i : Int) < (m : Int) := by omega
      obtain ⟨b, off, sp2, p2, rfl, e3, e4, e5⟩ := hat.out i hlt
      have d3 := cell_then hbw.out e3
      have d4 := cell_then hbw.out e4
      have d5 := cell_then hbw.out e5
      have s1 := hsz.out i
      have z1 := hbd.out i
      rw [← hzz.out] at z1
      have hs2 := hsum.out i
      obtain ⟨oa, hoa⟩ : ∃ oa, (V.os.getD i o0).1 = oa := ⟨_, rfl⟩
      obtain ⟨om, hom⟩ : ∃ om, (V.os.getD i o0).2.2 = om := ⟨_, rfl⟩
      obtain ⟨ol, hol⟩ : ∃ ol, (V.os.getD i o0).2.1.length = ol := ⟨_, rfl⟩
      unfold sz at s1 hs2
      rw [hoa] at d3
      rw [hom] at d5
      rw [hol] at d4 s1 hs2
      have cO := fun W => Go.Proofs.Ytneibhcigbfigaa.of_any (ol : Int) W
      have cS := fun W => Go.Proofs.Ytneibhcigbfigaa.size_any4 (Go.Proofs.Ytneibhcigbfigaa.Cl.ofI (ol : Int)) W
      obtain ⟨y, hy⟩ : ∃ y, Go.Proofs.Ytneibhcigbfigaa.Cl.ofI (ol : Int) = y := ⟨_, rfl⟩
      rw [hy] at cO cS s1 hs2
      obtain ⟨s, hs⟩ : ∃ s, Go.Proofs.Ytneibhcigbfigaa.Cl.sizeI y = s := ⟨_, rfl⟩
      rw [hs] at cS s1 hs2
      have hz2 := Lib.hid (show z + s = wdN V.os (i + 1) by rw [hs2, hzz.out])
      have ew : IntKind.i64.wrap (z + s) = z + s := by rw [IntKind.wrap_i64]; omega
      have hZ : Hid (∀ V, Below wr.heap.size wr V → Below W1.heap.size W1 V) := Lib.hid fun V hV => hbw.out.trans (hV.mono hbw.out.size)
      have hba := Lib.hid (below_alloc (Below.refl _ wr) (.cells #[.int .i64 oa, .slice sp2 ol p2, .bool om] 29))
      clear e3 e4 e5 hoa hom hol hy hs hs2 hzz hbw
      go_wp2_with fail
      with_reducible refine Calls.mono (cO _) ?_
      rintro e w5 ⟨rfl, hb5⟩
      have hb6 := Lib.hid (hba.out.trans (hb5.mono hba.out.size))
      clear cO hb5
      go_wp2_with fail
      with_reducible refine Calls.mono (cS _) ?_
      rintro e w6 ⟨rfl, hb7⟩
      have hb8 := Lib.hid (hZ.out _ (hb6.out.trans (hb7.mono hb6.out.size)))
      clear cS hb7 hb6 hba
      go_wp2_with fail
      go_roundw
      case rel => exact ⟨i + 1, z + s, by go_num, by go_num, by omega, hz2, hb8⟩
      case measure => simp [RowKit.intOf]; omega
    · obtain rfl : i = m := by omega
      have hf := Lib.hid (show Ending.returned (.int .i64 z) = .returned (.int .i64 (wds V.os)) by rw [hend.out, hzz.out])
      have hb9 := Lib.hid (hst.out.trans (hbw.out.mono hst.out.size))
      clear hzz
      go_wp2_with fail
      go_ret
      exact ⟨hf.out, hb9.out⟩
end Vw
end Go.Proofs.Ytneibhcigbfigaa
