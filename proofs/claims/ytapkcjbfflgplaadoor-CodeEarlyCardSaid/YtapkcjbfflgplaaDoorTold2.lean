/- told, walked. -/
import Derived.Test.YtapkcjbfflgplaaDoorTold
namespace Go.Proofs.YtapkcjbfflgplaaDoor
open Go.RowKit Go.Lib Fx Ho Gr
set_option linter.unusedVariables false
namespace Cd
variable {w w' W wr : World} {v fv : Value} {G nf len n : Int} {fs : List (List Ins)} {zs A : List Int} {l : List Ins}
theorem lit_ok {zs : List Int} (h : (zs.all fun z => decide (0 ≤ z ∧ z < 256)) = true) : ∀ i, i < zs.length → 0 ≤ zs.getD i 0 ∧ zs.getD i 0 < 256 := fun i hi => by
  have := List.all_eq_true.1 h (zs.getD i 0) (by rw [List.getD_eq_getElem?_getD, List.getElem?_eq_getElem hi]; exact List.getElem_mem hi)
  exact of_decide_eq_true this
set_option maxRecDepth 100000 in
set_option maxHeartbeats 4000000 in
theorem told_any (hT : Tk w) : Calls Tryd.prog 36 #[] w fun e w' => e = .returned (.bool true) ∧ Below w.heap.size w w' := by
  have hb1 := below_alloc (Below.refl w.heap.size w) (.cells #[.int .u8 1, .int .u8 0, .int .u8 1, .int .u8 0, .int .u8 0, .int .u8 0, .int .u8 0] 5)
  have cd1 := decode_any (hT.below hb1) (brow_new w [1, 0, 1, 0, 0, 0, 0] 5 (lit_ok rfl) (by decide))
  replace hb1 := Lib.hid hb1
  replace hT := Lib.hid hT
  go_enter Tryd.func36, Tryd.ntmps36
  go_wp2_with fail
  obtain ⟨W1, hW1⟩ : ∃ W1, w.alloc (.cells #[.int .u8 1, .int .u8 0, .int .u8 1, .int .u8 0, .int .u8 0, .int .u8 0, .int .u8 0] 5) = W1 := ⟨_, rfl⟩
  rw [hW1] at hb1 ⊢
  change Calls _ _ _ (w.alloc (.cells #[.int .u8 1, .int .u8 0, .int .u8 1, .int .u8 0, .int .u8 0, .int .u8 0, .int .u8 0] 5)) _ at cd1
  rw [hW1] at cd1
  with_reducible refine Calls.mono cd1 ?_
  rintro e w2 (⟨G, fs, fv, hE, rfl, hF, hb2⟩ | ⟨q, hE, _⟩)
  case inr => rw [prog1] at hE; cases hE
  rw [prog1] at hE
  cases hE
  clear cd1 hW1
  obtain ⟨sp, cap, efv, hfa⟩ := hF.fix
  obtain ⟨b, off, sv, cp, e0, hfb⟩ := hfa 0 (by decide)
  subst e0
  clear hfa
  have efv : fv = .slice (some ⟨b, off, none⟩) 1 cap := efv
  subst efv
  have hfx : Hid (∀ V, Below w2.heap.size w2 V → FRow V (.slice (some ⟨b, off, none⟩) 1 cap) [[(0, 0, 0, 0)]] ∧ V.cell? ⟨b, off, none⟩ = some (.slice sv 1 cp)) := Lib.hid fun V hV => ⟨hF.below hV, (hfb V hV).1⟩
  clear hF hfb
  have hb2w := hb1.out.trans (hb2.mono hb1.out.size)
  have hb3 := below_alloc (Below.refl w2.heap.size w2) (.cells #[.int .i64 0, .slice (some ⟨b, off, none⟩) 1 cap] 49)
  have hb4 := below_alloc hb3 (.cells #[.int .u8 1, .int .u8 0, .int .u8 1, .int .u8 14, .int .u8 1, .int .u8 0, .int .u8 0] 5)
  have cd2 := decode_any (hT.out.below (hb2w.trans (hb4.mono hb2w.size))) (brow_new (w2.alloc (.cells #[.int .i64 0, .slice (some ⟨b, off, none⟩) 1 cap] 49)) [1, 0, 1, 14, 1, 0, 0] 5 (lit_ok rfl) (by decide))
  change Calls _ _ _ ((w2.alloc (.cells #[.int .i64 0, .slice (some ⟨b, off, none⟩) 1 cap] 49)).alloc (.cells #[.int .u8 1, .int .u8 0, .int .u8 1, .int .u8 14, .int .u8 1, .int .u8 0, .int .u8 0] 5)) _ at cd2
  have k1 := heap_alloc_new w2 (.cells #[.int .i64 0, .slice (some ⟨b, off, none⟩) 1 cap] 49)
  have s1 : ∀ (u : World) (o : Obj), (u.alloc o).heap.size = u.heap.size + 1 := fun u o => by show (u.heap.push _).size = _; rw [Array.size_push]
  rw [s1] at cd2
  have k2 := ((below_alloc (Below.refl (w2.alloc (.cells #[.int .i64 0, .slice (some ⟨b, off, none⟩) 1 cap] 49)).heap.size (w2.alloc (.cells #[.int .i64 0, .slice (some ⟨b, off, none⟩) 1 cap] 49))) (.cells #[.int .u8 1, .int .u8 0, .int .u8 1, .int .u8 14, .int .u8 1, .int .u8 0, .int .u8 0] 5)).block _ (block_lt k1)).trans k1
  replace hb2w := Lib.hid hb2w
  replace hb3 := Lib.hid hb3
  replace hb4 := Lib.hid hb4
  obtain ⟨N, hN⟩ : ∃ N, w2.heap.size = N := ⟨_, rfl⟩
  rw [hN] at k2 cd2
  replace k2 := Lib.hid k2
  clear k1 s1 hb1 hb2
  go_wp2_with fail
  obtain ⟨W4, hW4⟩ : ∃ W4, (w2.alloc (.cells #[.int .i64 0, .slice (some ⟨b, off, none⟩) 1 cap] 49)).alloc (.cells #[.int .u8 1, .int .u8 0, .int .u8 1, .int .u8 14, .int .u8 1, .int .u8 0, .int .u8 0] 5) = W4 := ⟨_, rfl⟩
  rw [hW4] at hb4 cd2 k2 ⊢
  clear hW4 hb3
  with_reducible refine Calls.mono cd2 ?_
  rintro e w5 (⟨G, fs, fv, hE, _⟩ | ⟨q, hE, rfl, hb5⟩)
  · rw [prog2] at hE; cases hE
  rw [prog2] at hE
  cases hE
  clear cd2
  have hb6 := Lib.hid (below_alloc (hb4.out.trans (hb5.mono hb4.out.size)) (.cells #[.int .i64 0, .slice none 0 0] 49))
  have k3 := ((below_alloc hb5 (.cells #[.int .i64 0, .slice none 0 0] 49)).block _ (block_lt k2.out)).trans k2.out
  have hb6w := Lib.hid (hb2w.out.trans (hb6.out.mono hb2w.out.size))
  have ce := encode_any (hT.out.below hb6w.out) (hfx.out _ hb6.out).1 0
  have p0 : (w5.alloc (.cells #[.int .i64 0, .slice none 0 0] 49)).cell? ⟨N, 0, none⟩ = some (.int .i64 0) := cell_of k3 rfl
  have p1 : (w5.alloc (.cells #[.int .i64 0, .slice none 0 0] 49)).cell? ⟨N, 1, none⟩ = some (.slice (some ⟨b, off, none⟩) 1 cap) := cell_of k3 rfl
  replace k3 := Lib.hid k3
  clear k2 hb4 hb5 hb2w hN
  go_wp2_with fail
  obtain ⟨W6, hW6⟩ : ∃ W6, w5.alloc (.cells #[.int .i64 0, .slice none 0 0] 49) = W6 := ⟨_, rfl⟩
  rw [hW6] at hb6 hb6w ce p0 p1 k3 ⊢
  clear hW6
  with_reducible refine Calls.mono ce ?_
  rintro e w7 (⟨_, v7, rfl, hv7⟩ | ⟨r, hr, hr0, _⟩)
  case inr => exact absurd (hr.one may1) hr0
  obtain ⟨s7, c7, rfl⟩ := hv7.row.slice
  have hb7 := Lib.hid (hb6.out.trans (hv7.low.mono hb6.out.size))
  have hb7w := Lib.hid (hb6w.out.trans (hv7.low.mono hb6w.out.size))
  have k4 := Lib.hid ((hv7.low.block _ (block_lt k3.out)).trans k3.out)
  have p0 : w7.cell? ⟨N, 0, none⟩ = some (.int .i64 0) := cell_of k4.out rfl
  have p1 : w7.cell? ⟨N, 1, none⟩ = some (.slice (some ⟨b, off, none⟩) 1 cap) := cell_of k4.out rfl
  have d0 := (hfx.out _ hb7.out).2
  have hcv := grow_str hv7.row (by decide) (lit_ok rfl)
  have hbl : (byts (enc 0 [[(0, 0, 0, 0)]])).toList = [1, 0, 1, 0, 0, 0, 0] := by decide +kernel
  have cm := codemay_any (hT.out.below hb7w.out) (hfx.out _ hb7.out).1 0
  clear ce hv7 k3 hb6 hb6w
  go_wp2_with fail
  with_reducible refine Calls.mono cm ?_
  rintro e w8 ⟨r, rfl, hr, hb8⟩
  obtain rfl : r = 0 := hr.one may1
  have hb8w := Lib.hid (hb7w.out.trans (hb8.mono hb7w.out.size))
  have cm2 := codemay_any (hT.out.below hb8w.out) (show FRow w8 (.slice none 0 0) [] from ⟨none, 0, rfl, by decide, fun i hi => absurd hi (by simp)⟩) 0
  clear cm hfx hb7w hb8 hr hcv hbl p0 p1 d0
  go_wp2_with fail
  with_reducible refine Calls.mono cm2 ?_
  rintro e w9 ⟨r, rfl, hr, hb9⟩
  obtain rfl : r = 1 := hr.one may2
  have hb9w := hb8w.out.trans (hb9.mono hb8w.out.size)
  clear cm2 hb9 hr
  go_wp2_with fail
  go_ret
  exact ⟨rfl, hb9w⟩
end Cd
end Go.Proofs.YtapkcjbfflgplaaDoor
