import Derived.Test.YtdnajpnnjfncbaaDoorMB4
import Derived.Test.YtdnajpnnjfncbaaDoorMdRc
import Derived.Test.YtdnajpnnjfncbaaDoorMA1
/- ModelReach's session: what was reached, what is gone. -/
namespace Go.Proofs.YtdnajpnnjfncbaaDoor
open Go.RowKit Go.Lib Fx Ho Gr Qu Rw
set_option linter.unusedVariables false
namespace Md
open Cd (Ins zi ca c4 Tk FRow IRow MayIs CntOk)
variable {W0 w w' : World} {fs : List (List Ins)} {p : Nat} {q q' : Pl} {M M' : Mo} {g n i G K lo : Nat} {F F' : Nat → Prop} {v : Value} {L zs : List Int} {x : Int}
/-- The document's Put, at a rising list that is the law's own. -/
theorem put_list' {x : Int} (h : OffRow w v L) (hl : Low lo (fun k => v.ownBlock = some k)) (hlo : lo ≤ w.heap.size) (hs : L.length ≤ 500000) : Calls Tryd.prog 32 #[v, .int .i64 x] w fun e w' => ∃ v', e = .returned v' ∧ OffRow w' v' (putL L x) ∧ (∀ k, v'.ownBlock = some k → v.ownBlock = some k ∨ w.heap.size ≤ k) ∧ Below w.heap.size w w' := by
  obtain ⟨A, B, e, hlow, hc⟩ := put_at (x := x) L
  rcases hc with ⟨C, e2, e3⟩ | ⟨hup, e3⟩
  · have e4 : L = A ++ x :: C := by rw [e, e2]
    rw [e3]
    subst e4
    have hh := h
    obtain ⟨sp, cap, rfl⟩ := h.slice
    refine (put_here h.ints hlow rfl).mono ?_
    rintro _ w' ⟨rfl, rfl⟩
    exact ⟨_, rfl, h, fun k hk => .inl hk, Below.refl _ _⟩
  · rw [e3]
    subst e
    refine (put_new h hlow hup hs).mono ?_
    rintro _ w' ⟨v', rfl, g1, g2, g3⟩
    exact ⟨v', rfl, g1, fun k hk => .inr (g2 k hk), g3⟩
/-- A tick, as a law sees it. -/
theorem ms_tick (h : Ms W0 w G fs p M K F) (hK : K ≤ 90000) (x : Int) (m : Nat) (hm : m = x.toNat) (hmb : m ≤ 500) : Calls Tryd.prog 26 #[.pointer (some ⟨p, 0, none⟩), .int .i64 x] w fun e w' => ∃ v D T, e = .returned v ∧ Ms W0 w' G fs p (tickM M (M.ck + m) D T) (K + 1) F ∧ Kept F w w' ∧ Pt.Ds M.tm D T ∧ (∀ s ∈ D, s.1 ≤ M.ck + m) ∧ (∀ s ∈ T, M.ck + m < s.1) ∧ Ints w' (fun k => w.heap.size ≤ k) v (D.map (·.2.1)) := by
  obtain ⟨⟨q, h1, h2⟩, h3, h4⟩ := h
  refine (tick_any h1 h3 hK x m hm (by omega)).mono fun e w' ⟨v, D, T, q', he, hT, hi, hd, hd1, hd2⟩ => ?_
  have hk0 := h3.ck0
  have hk1 := h3.ck1
  obtain ⟨k1, k2⟩ := ms_turn h1 h2 h4 hT (h3.tick hd.perm (x := M.ck + m) (by omega) (by omega))
  exact ⟨v, D, T, he, k1, k2, hd, hd1, hd2, hi.wider (fun k hk _ => hk.1)⟩
theorem doI_ob (M : Mo) (g op a b c : Nat) : M.ob.length ≤ (doI M g op a b c).1.ob.length := by
  unfold doI
  dsimp only
  split <;> (try split) <;> simp
theorem DoIs.few (hP : Pg G fs) (hI : Inv G fs M K) {cv : Value} {er : Int} (h : DoIs fs M x cv er M') : M'.gs.length ≤ M.gs.length + 1 ∧ M.ob.length ≤ M'.ob.length := by
  cases h with
  | yes g e1 e2 e3 =>
    refine ⟨(went_any hP hI e2 e3).few, ?_⟩
    show M.ob.length ≤ (outI fs M g).1.ob.length
    have := doI_ob (doM M g) g (insAt fs M g).1.toNat (insAt fs M g).2.1.toNat (insAt fs M g).2.2.1.toNat (insAt fs M g).2.2.2.toNat
    exact this
  | not g e1 e2 e3 => exact ⟨Nat.le_succ _, Nat.le_refl _⟩
  | none e1 => exact ⟨Nat.le_succ _, Nat.le_refl _⟩
theorem DoIs.rc (hP : Pg G fs) (hI : Inv G fs M K) {cv : Value} {er : Int} (h : DoIs fs M x cv er M') {j : Nat} (hj : Rc M' j) : Rc M j ∨ j = M.ob.length + 1 := by
  cases h with
  | yes g e1 e2 e3 => exact rc_step hP hI e2 e3 hj
  | not g e1 e2 e3 => exact .inl hj
  | none e1 => exact .inl hj
theorem rise_nodup {l : List Int} (h : l.Pairwise (· < ·)) : l.Nodup := h.imp (fun h e => by omega)
/-- What was reached, and what is gone; the model goes on. -/
structure Rl (W0 w : World) (G : Nat) (fs : List (List Ins)) (p : Nat) (M : Mo) (K n : Nat) (vg vw : Value) (Sw : Home) (zg zw : List Int) : Prop where
  ms : Ms W0 w G fs p M K (fun k => vg.ownBlock = some k ∨ Sw k)
  few : M.gs.length ≤ n
  gone : OffRow w vg zg
  rise : zg.Pairwise (· < ·)
  was : Ints w Sw vw zw
  wle : ∀ x ∈ zw, ∃ j : Nat, x = (j : Int) ∧ j ≤ M.ob.length
  out : ∀ x ∈ zg, ∃ j : Nat, x = (j : Int) ∧ j ≤ M.ob.length ∧ ¬ Rc M j
variable {vg vw vn : Value} {Sw Sn : Home} {zg zw zn : List Int}
theorem Rl.turn {K' n' : Nat} (h : Rl W0 w G fs p M K n vg vw Sw zg zw) (hm : Ms W0 w' G fs p M' K' (fun k => vg.ownBlock = some k ∨ Sw k)) (hk : Kept (fun k => vg.ownBlock = some k ∨ Sw k) w w') (hn : M'.gs.length ≤ n') (hob : M.ob.length ≤ M'.ob.length) (hr : ∀ j, Rc M' j → Rc M j ∨ j = M.ob.length + 1) : Rl W0 w' G fs p M' K' n' vg vw Sw zg zw := by
  obtain ⟨H, H', hw, hF⟩ := hk
  refine ⟨hm, hn, h.gone.wrote hw (fun k hk2 hh => (hF k (.inl hk2)).2 hh), h.rise, h.was.wrote hw (fun k hk2 hh => (hF k (.inr hk2)).2 hh), fun x hx => ?_, fun x hx => ?_⟩
  · obtain ⟨j, e, h1⟩ := h.wle x hx
    exact ⟨j, e, by omega⟩
  · obtain ⟨j, e, h1, h2⟩ := h.out x hx
    exact ⟨j, e, by omega, fun hj => (hr j hj).elim h2 (fun e2 => by omega)⟩
theorem Rl.below (h : Rl W0 w G fs p M K n vg vw Sw zg zw) (hb : Below w.heap.size w w') : Rl W0 w' G fs p M K n vg vw Sw zg zw :=
  h.turn (h.ms.below hb) ⟨fun _ => False, fun _ => False, Wrote.of_below hb, fun k hk => ⟨(h.ms.lt k hk).2, id⟩⟩ h.few (Nat.le_refl _) (fun j hj => .inl hj)
theorem rl_tick (h : Rl W0 w G fs p M K n vg vw Sw zg zw) (hK : K ≤ 90000) (x : Int) (hx : x ≤ 500) : Calls Tryd.prog 26 #[.pointer (some ⟨p, 0, none⟩), .int .i64 x] w fun e w' => ∃ v M', e = .returned v ∧ Rl W0 w' G fs p M' (K + 1) n vg vw Sw zg zw :=
  (ms_tick h.ms hK x x.toNat rfl (by omega)).mono fun e w' ⟨v, D, T, he, k1, k2, hd, _⟩ => ⟨v, _, he, h.turn k1 k2 h.few (Nat.le_refl _) (fun j hj => .inl (rc_tick h.ms.inv hd.perm hj))⟩
/-- What Do tells, and what was made can be reached. -/
theorem rl_do (h : Rl W0 w G fs p M K n vg vw Sw zg zw) (hP : Pg G fs) (hK : K < 90000) (hn : n < 1000) (x : Int) : Calls Tryd.prog 12 #[.pointer (some ⟨p, 0, none⟩), .int .i64 x] w fun e w' => ∃ (g f pc op v : Int) (ft : Bool) (er : Int) (M' : Mo), e = .returned (.tuple #[.agg #[.int .i64 g, .int .i64 f, .int .i64 pc, .int .i64 op, .int .i64 v, .bool ft], .int .i64 er]) ∧ Rl W0 w' G fs p M' (K + 1) (n + 1) vg vw Sw zg zw ∧ (er = 0 → op = 1 → ∃ j : Nat, v = (j : Int) ∧ Rc M' j) :=
  (ms_do h.ms hP hK (by have := h.few; omega) x).mono fun e w' ⟨cv, er, M', he, hd, k1, k2⟩ => by
    obtain ⟨f1, f2⟩ := hd.few hP h.ms.inv
    have hr := h.turn (n' := n + 1) k1 k2 (by have := h.few; omega) f2 (fun j hj => hd.rc hP h.ms.inv hj)
    cases hd with
    | yes g e1 e2 e3 => exact ⟨_, _, _, _, _, _, _, _, he, hr, fun _ hop => by
        obtain ⟨a1, a2⟩ := rc_alloc hP h.ms.inv e2 e3 hop
        exact ⟨_, by rw [a1]; rfl, a2⟩⟩
    | not g e1 e2 e3 => exact ⟨_, _, _, _, _, _, _, _, he, hr, fun e => absurd e (by decide)⟩
    | none e1 => exact ⟨_, _, _, _, _, _, _, _, he, hr, fun e => absurd e (by decide)⟩
theorem rl_gs (h : Rl W0 w G fs p M K n vg vw Sw zg zw) : Calls Tryd.prog 16 #[.pointer (some ⟨p, 0, none⟩)] w (Still (.int .i64 M.gs.length) w) := ms_gs h.ms
/-- Do, with a block beside that was made ahead of it: it is as it was, and may be written. -/
theorem rl_do2 {w1 : World} (h : Rl W0 w G fs p M K n vg vw Sw zg zw) (hb : Below w.heap.size w w1) {N : Nat} (hN : w.heap.size ≤ N ∧ N < w1.heap.size) (hP : Pg G fs) (hK : K < 90000) (hn : n < 1000) (x : Int) : Calls Tryd.prog 12 #[.pointer (some ⟨p, 0, none⟩), .int .i64 x] w1 fun e w' => ∃ (g f pc op v : Int) (ft : Bool) (er : Int) (M' : Mo), e = .returned (.tuple #[.agg #[.int .i64 g, .int .i64 f, .int .i64 pc, .int .i64 op, .int .i64 v, .bool ft], .int .i64 er]) ∧ w'.heap[N]? = w1.heap[N]? ∧ (∀ W', Wrote (fun k => k = N) w' (fun k => k = N) W' → Rl W0 W' G fs p M' (K + 1) (n + 1) vg vw Sw zg zw) ∧ (er = 0 → op = 1 → ∃ j : Nat, v = (j : Int) ∧ Rc M' j) :=
  (ms_do (h.ms.more hb) hP hK (by have := h.few; omega) x).mono fun e w' ⟨cv, er, M', he, hd, k1, k2⟩ => by
    obtain ⟨f1, f2⟩ := hd.few hP h.ms.inv
    have hNk := k2.block (k := N) (.inr hN)
    have h1 := h.below hb
    have hr : ∀ W', Wrote (fun k => k = N) w' (fun k => k = N) W' → Rl W0 W' G fs p M' (K + 1) (n + 1) vg vw Sw zg zw := fun W' hw => by
      obtain ⟨H, H', hkw, hF⟩ := k2
      have hlt := h.ms.lt
      refine h1.turn (n' := n + 1) ((k1.wrote hw (fun k hk => .inr (by have hk : k = N := hk; subst hk; exact hN))).sub (fun k hk => .inl hk)) ⟨fun k => H k ∨ k = N, fun _ => False, ⟨hw.os.trans hkw.os, hw.tape.trans hkw.tape, hw.output.trans hkw.output, Nat.le_trans hkw.size hw.size, fun k hk hn => (hw.block k (Nat.lt_of_lt_of_le hk hkw.size) (fun e => hn (.inr e))).trans (hkw.block k hk (fun e => hn (.inl e))), fun k h => h.elim⟩, fun k hk => ⟨(hF k (.inl hk)).1, fun hh => hh.elim (hF k (.inl hk)).2 (fun e => by have := (hlt k hk).2; omega)⟩⟩ (by have := h.few; omega) f2 (fun j hj => hd.rc hP h.ms.inv hj)
    cases hd with
    | yes g e1 e2 e3 => exact ⟨_, _, _, _, _, _, _, _, he, hNk, hr, fun _ hop => by
        obtain ⟨a1, a2⟩ := rc_alloc hP h.ms.inv e2 e3 hop
        exact ⟨_, by rw [a1]; rfl, a2⟩⟩
    | not g e1 e2 e3 => exact ⟨_, _, _, _, _, _, _, _, he, hNk, hr, fun e => absurd e (by decide)⟩
    | none e1 => exact ⟨_, _, _, _, _, _, _, _, he, hNk, hr, fun e => absurd e (by decide)⟩
theorem step_call2' {P : Program} {ops : Array Oper} {o : Oper} {a : Act} {w : World} {K : Act → World → Prop} {Q : Exit → Act → World → Prop} {E : Prop} {post : Ending → World → Prop} (hgd : o.guard = none) (f : Nat) (x1 x2 : Operand) {ts : Array TypeId} (ho : o.op = .call { callee := .value (.func f), args := #[x1, x2], argTypes := ts }) (v1 v2 : Value) (ha1 : a.eval x1 = v1) (ha2 : a.eval x2 = v2) (hcf : (callFunc f #[v1, v2]).run P w = .ok (.enter f #[v1, v2]) w)
    (hc : Calls P f #[v1, v2] w post) (hK : ∀ e w', post e w' → ∃ v, e = .returned v ∧ K (a.put o.dst v) w') : if Region.wanted o (yielded ops a.tmps) = true then Oper.wp P o a w K Q else E :=
  step_call hgd f #[x1, x2] ho #[v1, v2] (by simp [ha1, ha2]) hcf hc hK
/-- A commit is stored. -/
theorem six_h {N : Nat} {y0 y1 y2 y3 y4 y5 x0 x1 x2 x3 x4 x5 : Value} (hk : w.heap[N]? = some (.cells #[y0, y1, y2, y3, y4, y5] 24 (0, 0))) : ((((((w.setCell ⟨N, 0, none⟩ x0).setCell ⟨N, 1, none⟩ x1).setCell ⟨N, 2, none⟩ x2).setCell ⟨N, 3, none⟩ x3).setCell ⟨N, 4, none⟩ x4).setCell ⟨N, 5, none⟩ x5).heap[N]? = some (.cells #[x0, x1, x2, x3, x4, x5] 24 (0, 0)) ∧ Wrote (fun k => k = N) w (fun k => k = N) ((((((w.setCell ⟨N, 0, none⟩ x0).setCell ⟨N, 1, none⟩ x1).setCell ⟨N, 2, none⟩ x2).setCell ⟨N, 3, none⟩ x3).setCell ⟨N, 4, none⟩ x4).setCell ⟨N, 5, none⟩ x5) := by
  have w0 : ∀ (V : World) (j : Nat) (z : Value), Wrote (fun k => k = N) V (fun k => k = N) (V.setCell ⟨N, j, none⟩ z) := fun V j z => wrote_setCell (a := ⟨N, j, none⟩) rfl rfl rfl rfl rfl
  exact ⟨heap_setCell_same _ N 5 _ _ x5 (heap_setCell_same _ N 4 _ _ x4 (heap_setCell_same _ N 3 _ _ x3 (heap_setCell_same _ N 2 _ _ x2 (heap_setCell_same _ N 1 _ _ x1 (heap_setCell_same w N 0 _ _ x0 hk))))), (((((w0 w 0 x0).trans (w0 _ 1 x1)).trans (w0 _ 2 x2)).trans (w0 _ 3 x3)).trans (w0 _ 4 x4)).trans (w0 _ 5 x5)⟩
/-- .. and what is reached now. -/
structure Rn (W0 w : World) (G : Nat) (fs : List (List Ins)) (p : Nat) (M : Mo) (K n : Nat) (vg vw vn : Value) (Sw Sn : Home) (zg zw zn : List Int) : Prop where
  ms : Ms W0 w G fs p M K (fun k => vg.ownBlock = some k ∨ Sw k ∨ Sn k)
  few : M.gs.length ≤ n
  gone : OffRow w vg zg
  rise : zg.Pairwise (· < ·)
  was : Ints w Sw vw zw
  now : Ints w Sn vn zn
  wle : ∀ x ∈ zw, ∃ j : Nat, x = (j : Int) ∧ j ≤ M.ob.length
  out : ∀ x ∈ zg, ∃ j : Nat, x = (j : Int) ∧ j ≤ M.ob.length ∧ ¬ Rc M j
  nw : IsReach M zn
theorem rl_reach (h : Rl W0 w G fs p M K n vg vw Sw zg zw) (hK : K ≤ 90000) : Calls Tryd.prog 18 #[.pointer (some ⟨p, 0, none⟩)] w fun e w' => ∃ vn Sn zn, e = .returned vn ∧ Rn W0 w' G fs p M K n vg vw vn Sw Sn zg zw zn ∧ Below w.heap.size w w' :=
  (ms_reach h.ms hK).mono fun e w' ⟨v, zs, he, hb, hi, hr⟩ => by
    have h2 := h.below hb
    have hm := h.ms.more hb
    refine ⟨v, fun k => w.heap.size ≤ k ∧ k < w'.heap.size, zs, he, ⟨hm.sub (fun k hk => ?_), h.few, h2.gone, h2.rise, h2.was, hi.wider (fun k hk hk2 => ⟨hk, hk2⟩), h2.wle, h2.out, hr⟩, hb⟩
    rcases hk with e | e | e
    · exact .inl (.inl e)
    · exact .inl (.inr e)
    · exact .inr e
theorem Rn.below (h : Rn W0 w G fs p M K n vg vw vn Sw Sn zg zw zn) (hb : Below w.heap.size w w') : Rn W0 w' G fs p M K n vg vw vn Sw Sn zg zw zn :=
  ⟨h.ms.below hb, h.few, h.gone.wrote (H := fun _ => False) (Wrote.of_below hb) (fun _ _ h => h), h.rise, h.was.below hb, h.now.below hb, h.wle, h.out, h.nw⟩
theorem Rn.small (h : Rn W0 w G fs p M K n vg vw vn Sw Sn zg zw zn) : zg.length ≤ K + 1 := by
  have := pig (M.ob.length + 1) zg (rise_nodup h.rise) (fun x hx => by obtain ⟨j, e, h1, _⟩ := h.out x hx; exact ⟨j, e, by omega⟩)
  have := h.ms.inv.ob
  omega
/-- One that was reached and is not is put to those that are gone. -/
theorem rn_put (h : Rn W0 w G fs p M K n vg vw vn Sw Sn zg zw zn) (hK : K ≤ 90000) {x : Int} (hx : x ∈ zw) (hn : x ∉ zn) : Calls Tryd.prog 32 #[vg, .int .i64 x] w fun e w' => ∃ v', e = .returned v' ∧ Rn W0 w' G fs p M K n v' vw vn Sw Sn (putL zg x) zw zn ∧ Below w.heap.size w w' := by
  have hs := h.small
  refine (put_list' (lo := 0) h.gone (fun k _ => Nat.zero_le _) (Nat.zero_le _) (by omega)).mono fun e w' ⟨v', he, h1, h2, hb⟩ => ?_
  refine ⟨v', he, ⟨(h.ms.more hb).sub (fun k hk => ?_), h.few, h1, rise_putL _ h.rise, h.was.below hb, h.now.below hb, h.wle, fun y hy => ?_, h.nw⟩, hb⟩
  · rcases hk with e | e
    · exact (h2 k e).imp .inl (fun e2 => ⟨e2, h1.lt e⟩)
    · exact .inl (.inr e)
  · rcases (mem_putL _).1 hy with rfl | hy
    · obtain ⟨j, e, h3⟩ := h.wle y hx
      exact ⟨j, e, h3, fun hj => hn ((h.nw.mem y).2 ⟨j, e, hj⟩)⟩
    · exact h.out y hy
/-- What is gone is not reached now. -/
theorem Rn.apart (h : Rn W0 w G fs p M K n vg vw vn Sw Sn zg zw zn) {x : Int} (hx : x ∈ zn) : x ∉ zg := fun hg => by
  obtain ⟨j, e, _, h2⟩ := h.out x hg
  obtain ⟨i, e2, h3⟩ := (h.nw.mem x).1 hx
  obtain rfl : i = j := by omega
  exact h2 h3
/-- The round's end: what is reached now is what was. -/
theorem Rn.next (h : Rn W0 w G fs p M K n vg vw vn Sw Sn zg zw zn) : Rl W0 w G fs p M K n vg vn Sn zg zn :=
  ⟨h.ms.sub (fun k hk => hk.imp (fun e => e) .inr), h.few, h.gone, h.rise, h.now, fun x hx => by
    obtain ⟨j, e, hj⟩ := (h.nw.mem x).1 hx
    exact ⟨j, e, (h.ms.inv.rc_le hj).2⟩, h.out⟩
theorem rl_first (h : Ms W0 w G fs p (mo0 G) 0 (fun k => k ∈ [])) : Calls Tryd.prog 18 #[.pointer (some ⟨p, 0, none⟩)] w fun e w' => ∃ vn Sn zn, e = .returned vn ∧ Rl W0 w' G fs p (mo0 G) 0 1 (.slice none 0 0) vn Sn [] zn :=
  (ms_reach h (by omega)).mono fun e w' ⟨v, zs, he, hb, hi, hr⟩ => by
    refine ⟨v, fun k => w.heap.size ≤ k ∧ k < w'.heap.size, zs, he, (h.more hb).sub (fun k hk => ?_), Nat.le_refl _, offrow_nil _, List.Pairwise.nil, hi.wider (fun k hk hk2 => ⟨hk, hk2⟩), fun x hx => ?_, fun x hx => by cases hx⟩
    · rcases hk with e | e
      · cases e
      · exact .inr e
    · obtain ⟨j, e, hj⟩ := (hr.mem x).1 hx
      exact ⟨j, e, (h.inv.rc_le hj).2⟩
end Md
end Go.Proofs.YtdnajpnnjfncbaaDoor
