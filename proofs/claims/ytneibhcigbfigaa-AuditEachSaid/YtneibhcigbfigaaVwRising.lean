/- View: rising, told. -/
import Derived.Test.YtneibhcigbfigaaVwDel
namespace Go.Proofs.Ytneibhcigbfigaa
open Go.RowKit Go.Lib Fx Ho Gr Go.Sort
set_option linter.unusedVariables false
namespace Vw
variable {B w w' W : World} {p mb n i lo F : Nat} {v lv : Value} {all l zs ts : List Int} {x y : Int} {H S : Home} {b : Option Nat}
set_option maxRecDepth 100000 in
theorem isz_any (x : Int) (W : World) : Calls Try.prog 106 #[.int .i64 x] W fun e w' => e = .returned (.bool (x == 0)) ∧ Below W.heap.size W w' := by
  go_enter Try.func106, Try.ntmps106
  go_wp2_with fail
  go_ret
  exact ⟨rfl, Below.refl _ _⟩
theorem pd_zero (zs : List Int) (b : Option Nat) : Pd 106 #[] (fun x => x == 0) zs b (fun _ => True) :=
  ⟨enters_of Try.func106 (by kernel_rfl) rfl, fun x _ W _ => isz_any x W, fun _ _ _ _ => trivial⟩
theorem below_wrote (h : Wrote (fun k => v.ownBlock = some k) w H w') (hb : Below W.heap.size W w) (hlo : ∀ k, v.ownBlock = some k → W.heap.size ≤ k) : Below W.heap.size W w' :=
  ⟨h.os.trans hb.os, h.tape.trans hb.tape, h.output.trans hb.output, Nat.le_trans hb.size h.size, fun k hk => (h.block k (Nat.lt_of_lt_of_le hk hb.size) (fun e => by have := hlo k e; omega)).trans (hb.block k hk)⟩
def RisR (w : World) (zs : List Int) (e : Ending) (w' : World) : Prop := ∃ v' rs, e = .returned v' ∧ Ris zs rs ∧ Ints w' (fun k => w.heap.size ≤ k) v' rs ∧ rs.length ≤ zs.length ∧ Below w.heap.size w w'
set_option maxRecDepth 100000 in
set_option maxHeartbeats 2000000 in
theorem rising_any (hl : Ints w S lv zs) (hn : zs.length ≤ 1000000) : Calls Try.prog 72 #[lv] w (RisR w zs) := by
  have c1 := clone_any hl hn
  have c2 : Hid (∀ v1 w1, Rw0 w.heap.size w1 v1 zs → Calls Try.prog 68 #[v1, .func (.func 106) #[] #[]] w1 fun e w' => ∃ v', e = .returned v' ∧ Rw0 w.heap.size w' v' (zs.filter fun x => !(x == 0)) ∧ v'.ownBlock = v1.ownBlock ∧ Wrote (fun k => v1.ownBlock = some k) w1 (fun k => v1.ownBlock = some k) w') := Lib.hid fun v1 w1 h => del_any (pd_zero zs _) trivial h
  have hfl := List.length_filter_le (fun x : Int => !(x == 0)) zs
  have hmf : Hid (∀ x, x ∈ zs.filter (fun x => !(x == 0)) ↔ x ∈ zs ∧ x ≠ 0) := Lib.hid fun x => by rw [List.mem_filter]; simp
  obtain ⟨fs, hfs⟩ : ∃ fs, zs.filter (fun x => !(x == 0)) = fs := ⟨_, rfl⟩
  rw [hfs] at c2 hfl hmf
  clear hfs
  obtain ⟨sp, cap, rfl, -⟩ := hl
  obtain ⟨m, hm⟩ : ∃ m, zs.length = m := ⟨_, rfl⟩
  rw [hm] at c1 ⊢
  replace hm := Lib.hid hm
  replace hfl := Lib.hid hfl
  go_enter Try.func72, Try.ntmps72
  go_wp2_with fail
  with_reducible refine Calls.mono c1 ?_
  rintro e w1 ⟨v1, rfl, h1, hb1⟩
  have c3 := c2.out v1 w1 h1
  have hlow1 := h1.low
  replace hb1 := Lib.hid hb1
  replace hlow1 := Lib.hid hlow1
  clear c1 c2 h1
  go_wp2_with fail
  with_reducible refine Calls.mono c3 ?_
  rintro e w2 ⟨v2, rfl, h2, ho2, hw2⟩
  have hb2 := Lib.hid (below_wrote hw2 hb1.out hlow1.out)
  have c4 := sort_any h2
  have hlow2 := Lib.hid h2.low
  clear c3 h2 ho2 hw2 hb1 hlow1
  go_wp2_with fail
  with_reducible refine Calls.mono c4 ?_
  rintro e w3 ⟨rfl, ts, hp, hs, h3, hw3⟩
  have hb3 := Lib.hid (below_wrote hw3 hb2.out hlow2.out)
  have c5 := compact_any h3 hs
  replace hp := Lib.hid hp
  clear c4 hs h3 hw3 hb2
  go_wp2_with fail
  with_reducible refine Calls.mono c5 ?_
  rintro e w4 ⟨v4, rs, rfl, g1, g2, h4, hw4⟩
  have hfin : Hid (RisR w zs (.returned v4) w4) := Lib.hid ⟨v4, rs, rfl, ⟨g1, fun x => by rw [g2, hp.out.mem_iff, hmf.out]⟩, h4.ints, by
    have e1 := hp.out.length_eq
    have e2 := hfl.out
    have : rs.length ≤ ts.length := by
      have h5 : ∀ x ∈ rs, x ∈ ts := fun x hx => (g2 x).1 hx
      exact nodup_le (up_nodup g1) h5
    omega, below_wrote hw4 hb3.out hlow2.out⟩
  clear c5 g1 g2 h4 hw4
  go_wp2_with fail
  go_ret
  exact hfin.out
end Vw
end Go.Proofs.Ytneibhcigbfigaa
