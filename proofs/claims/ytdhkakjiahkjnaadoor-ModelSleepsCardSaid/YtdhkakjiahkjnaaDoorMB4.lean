import Derived.Test.YtdhkakjiahkjnaaDoorMB3
import Derived.Test.YtdhkakjiahkjnaaDoorMA7
import Derived.Test.YtdhkakjiahkjnaaDoorMA6
/- The model in a law's session: its calls, and blocks of the law's own beside it. -/
namespace Go.Proofs.YtdhkakjiahkjnaaDoor
open Go.RowKit Go.Lib Fx Ho Gr
set_option linter.unusedVariables false
namespace Md
open Cd (Ins zi ca c4 Tk FRow IRow MayIs CntOk)
variable {W0 w w' : World} {fs : List (List Ins)} {p : Nat} {q q' : Pl} {M M' : Mo} {H H' : Home} {g a b c n i G K K' : Nat} {F F' : Nat → Prop} {x : Int}
/-- A model that was made since W0 lies at p; blocks of F are none of its own. -/
structure Ms (W0 w : World) (G : Nat) (fs : List (List Ins)) (p : Nat) (M : Mo) (K : Nat) (F : Nat → Prop) : Prop where
  is : ∃ q, IsM W0 w fs p q M ∧ ∀ k, F k → ∀ i, i < 8 → ¬ hm p q i k
  inv : Inv G fs M K
  lt : ∀ k, F k → W0.heap.size ≤ k ∧ k < w.heap.size
theorem Ms.bel (h : Ms W0 w G fs p M K F) : Below W0.heap.size W0 w := by obtain ⟨⟨q, h, _⟩, _, _⟩ := h; exact h.bel
theorem Ms.below (h : Ms W0 w G fs p M K F) (hb : Below w.heap.size w w') : Ms W0 w' G fs p M K F := by
  obtain ⟨⟨q, h1, h2⟩, h3, h4⟩ := h
  exact ⟨⟨q, h1.below hb, h2⟩, h3, fun k hk => ⟨(h4 k hk).1, Nat.lt_of_lt_of_le (h4 k hk).2 hb.size⟩⟩
/-- What was made beside it is none of its own. -/
theorem Ms.more (h : Ms W0 w G fs p M K F) (hb : Below w.heap.size w w') : Ms W0 w' G fs p M K (fun k => F k ∨ (w.heap.size ≤ k ∧ k < w'.heap.size)) := by
  obtain ⟨⟨q, h1, h2⟩, h3, h4⟩ := h
  refine ⟨⟨q, h1.below hb, fun k hk i hi hh => ?_⟩, h3, fun k hk => ?_⟩
  · rcases hk with e | e
    · exact h2 k e i hi hh
    · have := (h1.ap.low i k hi hh).2; omega
  · rcases hk with e | e
    · have := h4 k e; have := hb.size; omega
    · have := h1.bel.size; omega
theorem Ms.sub (h : Ms W0 w G fs p M K F) (hs : ∀ k, F' k → F k) : Ms W0 w G fs p M K F' := by
  obtain ⟨⟨q, h1, h2⟩, h3, h4⟩ := h
  exact ⟨⟨q, h1, fun k hk => h2 k (hs k hk)⟩, h3, fun k hk => h4 k (hs k hk)⟩
theorem Ms.late (h : Ms W0 w G fs p M K F) (hK : K ≤ K') : Ms W0 w G fs p M K' F := ⟨h.is, h.inv.more hK, h.lt⟩
/-- Blocks beside it may be written. -/
theorem IsM.aside {B : World} (h : IsM B w fs p q M) (hw : Wrote H w H' w') (hX : ∀ k, H k → B.heap.size ≤ k) (hn : ∀ i k, i < 8 → hm p q i k → ¬ H k) : IsM B w' fs p q M :=
  ⟨h.p0.wrote hw (fun k => hn 0 k (by omega)), h.p1.wrote hw (fun k => hn 1 k (by omega)), h.p2.wrote hw (fun k => hn 2 k (by omega)), h.p3.wrote hw (fun k => hn 3 k (by omega)), h.p4.wrote hw (fun k => hn 4 k (by omega)), h.p5.wrote hw (fun k => hn 5 k (by omega)), h.p6.wrote hw (fun k => hn 6 k (by omega)), h.p7.wrote hw (fun k => hn 7 k (by omega)), h.ap.more hw.size, h.bel.trans (Cd.below_of_w hw hX h.bel.size)⟩
theorem Ms.wrote (h : Ms W0 w G fs p M K F) (hw : Wrote H w H' w') (hH : ∀ k, H k → F k) : Ms W0 w' G fs p M K F := by
  obtain ⟨⟨q, h1, h2⟩, h3, h4⟩ := h
  exact ⟨⟨q, h1.aside hw (fun k hk => (h4 k (hH k hk)).1) (fun i k hi hk hh => h2 k (hH k hh) i hi hk), h2⟩, h3, fun k hk => ⟨(h4 k hk).1, Nat.lt_of_lt_of_le (h4 k hk).2 hw.size⟩⟩
/-- The blocks of a model. -/
def own (p : Nat) (q : Pl) : Home := fun k => ∃ i, i < 8 ∧ hm p q i k
theorem own_low (h : IsM W0 w fs p q M) {k : Nat} (hk : own p q k) : W0.heap.size ≤ k ∧ k < w.heap.size := by
  obtain ⟨i, hi, hk⟩ := hk
  exact h.ap.low i k hi hk
theorem tn_wrote (h : IsM W0 w fs p q M) (hT : Tn W0 w fs p q w' q' M') : Wrote (own p q) w (own p q') w' :=
  ⟨hT.is.bel.os.trans h.bel.os.symm, hT.is.bel.tape.trans h.bel.tape.symm, hT.is.bel.output.trans h.bel.output.symm, hT.size, fun k hk hn => hT.keep k hk (fun i hi hh => hn ⟨i, hi, hh⟩), fun k ⟨i, hi, hh⟩ => hT.nx i k hi hh⟩
/-- The law's own blocks are as they were. -/
def Kept (F : Nat → Prop) (w w' : World) : Prop := ∃ H H', Wrote H w H' w' ∧ ∀ k, F k → k < w.heap.size ∧ ¬ H k
theorem Kept.block {k : Nat} (h : Kept F w w') (hk : F k) : w'.heap[k]? = w.heap[k]? := by
  obtain ⟨H, H', hw, hF⟩ := h
  exact hw.block k (hF k hk).1 (hF k hk).2
theorem ms_turn {q : Pl} (h1 : IsM W0 w fs p q M) (h2 : ∀ k, F k → ∀ i, i < 8 → ¬ hm p q i k) (h4 : ∀ k, F k → W0.heap.size ≤ k ∧ k < w.heap.size) (hT : Tn W0 w fs p q w' q' M') (hI : Inv G fs M' K') : Ms W0 w' G fs p M' K' F ∧ Kept F w w' :=
  ⟨⟨⟨q', hT.is, fun k hk i hi hh => (hT.nx i k hi hh).elim (fun ⟨j, hj, h5⟩ => h2 k hk j hj h5) (fun e => by have := (h4 k hk).2; omega)⟩, hI, fun k hk => ⟨(h4 k hk).1, Nat.lt_of_lt_of_le (h4 k hk).2 hT.size⟩⟩, _, _, tn_wrote h1 hT, fun k hk => ⟨(h4 k hk).2, fun ⟨i, hi, hh⟩ => h2 k hk i hi hh⟩⟩
/-- A variable of the law's own is made beside it. -/
theorem Ms.var {L : List Nat} (h : Ms W0 w G fs p M K (fun k => k ∈ L)) (A : Array Value) (t : TypeId) : Ms W0 (w.alloc (.cells A t)) G fs p M K (fun k => k ∈ w.heap.size :: L) ∧ (w.alloc (.cells A t)).heap[w.heap.size]? = some (.cells A t (0, 0)) ∧ Kept (fun k => k ∈ L) w (w.alloc (.cells A t)) := by
  have hb := below_alloc (Below.refl w.heap.size w) (.cells A t)
  have hk := heap_alloc_new w (.cells A t)
  refine ⟨(h.more hb).sub (fun k hk2 => ?_), hk, fun _ => False, fun _ => False, Wrote.of_below hb, fun k hk2 => ⟨(h.lt k hk2).2, id⟩⟩
  rcases List.mem_cons.1 hk2 with e | e
  · exact .inr ⟨by omega, by rw [e]; exact block_lt hk⟩
  · exact .inl e
def com0 : Value := comV 0 0 0 0 0 false
/-- What Do answers, and the model behind it. -/
inductive DoIs (fs : List (List Ins)) (M : Mo) (x : Int) : Value → Int → Mo → Prop
  | yes (g : Nat) : x = (g : Int) → g < M.gs.length → M.st.getD g 0 = 1 → DoIs fs M x (comM fs M g) 0 (step fs M g)
  | not (g : Nat) : x = (g : Int) → g < M.gs.length → M.st.getD g 0 ≠ 1 → DoIs fs M x com0 5 M
  | none : ¬ (0 ≤ x ∧ x < M.gs.length) → DoIs fs M x com0 4 M
def DoR (W0 w : World) (G : Nat) (fs : List (List Ins)) (p : Nat) (M : Mo) (K : Nat) (F : Nat → Prop) (x : Int) (e : Ending) (w' : World) : Prop := ∃ cv er M', e = .returned (.tuple #[cv, .int .i64 er]) ∧ DoIs fs M x cv er M' ∧ Ms W0 w' G fs p M' (K + 1) F ∧ Kept F w w'
theorem ms_do (h : Ms W0 w G fs p M K F) (hP : Pg G fs) (hK : K < 90000) (hG : M.gs.length < 1000) (x : Int) : Calls Tryd.prog 6 #[.pointer (some ⟨p, 0, none⟩), .int .i64 x] w (DoR W0 w G fs p M K F x) := by
  obtain ⟨⟨q, h1, h2⟩, h3, h4⟩ := h
  have hl := h3.len
  by_cases hx : 0 ≤ x ∧ x < M.gs.length
  · obtain ⟨g, rfl⟩ := Int.eq_ofNat_of_zero_le hx.1
    have hg : g < M.gs.length := by omega
    by_cases h1s : M.st.getD g 0 = 1
    · refine (do_step h1 hP h3 hK hG hg h1s).mono fun e w' ⟨he, q', hT⟩ => ?_
      obtain ⟨k1, k2⟩ := ms_turn h1 h2 h4 hT (h3.step hP hg h1s)
      exact ⟨_, _, _, he, .yes g rfl hg h1s, k1, k2⟩
    · have hne : M.st.getD g 0 ≠ 0 := fun e => by
        rcases h3.st _ (getD_mem 0 (show g < M.st.length by omega)) with e2 | e2 | e2 <;> (rw [e] at e2; exact absurd e2 (by decide))
      refine (do_not h1 (by omega) rfl hne h1s).mono fun e w' ⟨he, q', hT⟩ => ?_
      obtain ⟨k1, k2⟩ := ms_turn h1 h2 h4 hT (h3.more (Nat.le_add_right K 1))
      exact ⟨_, _, _, he, .not g rfl hg h1s, k1, k2⟩
  · refine (do_none h1 x (by rw [hl]; exact hx)).mono fun e w' ⟨he, q', hT⟩ => ?_
    obtain ⟨k1, k2⟩ := ms_turn h1 h2 h4 hT (h3.more (Nat.le_add_right K 1))
    exact ⟨_, _, _, he, .none hx, k1, k2⟩
/-- Do of a goroutine that is known to be runnable. -/
theorem ms_step (h : Ms W0 w G fs p M K F) (hP : Pg G fs) (hK : K < 90000) (hG : M.gs.length < 1000) (hg : g < M.gs.length) (h1 : M.st.getD g 0 = 1) : Calls Tryd.prog 6 #[.pointer (some ⟨p, 0, none⟩), .int .i64 g] w fun e w' => e = .returned (.tuple #[comM fs M g, .int .i64 0]) ∧ Ms W0 w' G fs p (step fs M g) (K + 1) F ∧ Kept F w w' := by
  obtain ⟨⟨q, h1', h2⟩, h3, h4⟩ := h
  exact (do_step h1' hP h3 hK hG hg h1).mono fun e w' ⟨he, q', hT⟩ => ⟨he, ms_turn h1' h2 h4 hT (h3.step hP hg h1)⟩
/-- A goroutine's state; 0 of none. -/
def stX (M : Mo) (x : Int) : Int := if 0 ≤ x ∧ x < M.st.length then M.st.getD x.toNat 0 else 0
theorem ms_state (h : Ms W0 w G fs p M K F) (x : Int) : Calls Tryd.prog 7 #[.pointer (some ⟨p, 0, none⟩), .int .i64 x] w (Still (.int .i64 (stX M x)) w) := by
  obtain ⟨⟨q, h1, _⟩, _, _⟩ := h
  unfold stX
  by_cases hx : 0 ≤ x ∧ x < M.st.length
  · rw [if_pos hx]
    obtain ⟨g, rfl⟩ := Int.eq_ofNat_of_zero_le hx.1
    exact state_yes h1 (by omega)
  · rw [if_neg hx]
    exact state_no h1 x hx
theorem ms_ids (h : Ms W0 w G fs p M K F) : Calls Tryd.prog 19 #[.pointer (some ⟨p, 0, none⟩)] w (Still (.int .i64 M.ob.length) w) := by
  obtain ⟨⟨q, h1, _⟩, _, _⟩ := h
  exact ids_any h1
theorem ms_stuck (h : Ms W0 w G fs p M K F) : Calls Tryd.prog 8 #[.pointer (some ⟨p, 0, none⟩)] w (Still (.bool (decide (St.cnt M.st 1 = 0) && (decide (M.tm.length = 0) && decide (0 < St.cnt M.st 3)))) w) := by
  obtain ⟨⟨q, h1, _⟩, _, _⟩ := h
  exact stuck_any h1
theorem ms_reach (h : Ms W0 w G fs p M K F) (hK : K ≤ 90000) : Calls Tryd.prog 20 #[.pointer (some ⟨p, 0, none⟩)] w (ReachR w M) := by
  obtain ⟨⟨q, h1, _⟩, h3, _⟩ := h
  exact reach_any h1 h3 hK
theorem inv0 (hP : Pg G fs) : Inv G fs (mo0 G) 0 := by
  have hf : ∀ r ∈ (mo0 G).gs, r = fresh 0 0 := fun r hr => List.mem_singleton.1 hr
  refine ⟨List.length_replicate, rfl, by show 1 ≤ 1024; omega, fun r hr => by rw [hf r hr]; exact GorOk.fresh (by have := hP.pos; omega) (by show (0 : Int) ≤ 0 ∧ (0 : Int) ≤ ((0 : Nat) : Int); omega), fun g hg _ => ?_, fun x hx => .inl (List.mem_singleton.1 hx), fun x hx => by rw [List.eq_of_mem_replicate hx]; show (0 : Int) ≤ 0 ∧ (0 : Int) ≤ ((0 : Nat) : Int); omega, fun o ho => (by cases ho), fun o ho => (by cases ho), Nat.le_refl _, Nat.le_refl _, by show (0 : Int) ≤ 0; omega, by show (0 : Int) ≤ _; omega, fun j _ => Nat.le_refl _, fun j _ x hx => (by cases hx), fun s hs => (by cases hs), fun j _ => List.nodup_nil, fun i j _ _ x hx => (by cases hx), List.nodup_nil, fun s hs => (by cases hs)⟩
  obtain rfl : g = 0 := by have hg : g < 1 := hg; omega
  exact Nat.zero_le _
/-- A model of a program that may be. -/
theorem ms_new {v : Value} (hT : Tk w) (hF : FRow w v fs) (hm : MayIs (G : Int) fs 0) : Calls Tryd.prog 11 #[.agg #[.int .i64 G, v]] w fun e w' => ∃ p, e = .returned (.tuple #[.pointer (some ⟨p, 0, none⟩), .int .i64 0]) ∧ Ms w w' G fs p (mo0 G) 0 (fun _ => False) :=
  (new_any hT hF G).mono fun e w' h => by
    rcases h with ⟨r, h1, h2, _⟩ | ⟨G', p, q, hg, h1, h2, h3⟩
    · exact absurd (h1.one hm) h2
    · obtain rfl : G = G' := by omega
      exact ⟨p, h2, ⟨q, h3, fun k hk => hk.elim⟩, inv0 (pg_of hm), fun k hk => hk.elim⟩
theorem ms_new_not {v : Value} (hT : Tk w) (hF : FRow w v fs) {g : Int} (hm : ¬ MayIs g fs 0) : Calls Tryd.prog 11 #[.agg #[.int .i64 g, v]] w (AnsB (.tuple #[.pointer none, .int .i64 1]) w) :=
  (new_any hT hF g).mono fun e w' h => by
    rcases h with ⟨r, h1, h2, h3, h4⟩ | ⟨G', p, q, hg, h1, h2, h3⟩
    · exact ⟨h3, h4⟩
    · exact absurd h1 hm
/-- A program that may be, told by what it is. -/
theorem may_of (hP : Pg G fs) : MayIs (G : Int) fs 0 := .inr (.inl ⟨⟨hP.pos, hP.len, by omega, by have := hP.gl; omega, hP.fl⟩, hP.ok, rfl⟩)
theorem may_nil (g : Int) : ¬ MayIs g [] 0 := fun h => by
  rcases h with ⟨_, e⟩ | ⟨h1, _⟩ | ⟨_, i, j, hi, _⟩
  · exact absurd e (by decide)
  · exact absurd h1.1 (by decide)
  · simp at hi
end Md
end Go.Proofs.YtdhkakjiahkjnaaDoor
/- treadmilllaw16.told: a few of the model. -/
namespace Go.Proofs.YtdhkakjiahkjnaaDoor
open Go.RowKit Go.Lib Fx Ho Gr
set_option linter.unusedVariables false
namespace Md
open Cd (Ins zi ca c4 Tk FRow IRow MayIs CntOk ca_get ca_len)
variable {W0 w w' W : World} {fs : List (List Ins)} {p b : Nat} {q q' : Pl} {M M' : Mo} {G K : Nat} {F F' : Nat → Prop} {l : List Ins} {vs : List Value} {t : TypeId}
/-- Instructions that lie in a block of their own. -/
theorem irow_lit (h : W.heap[b]? = some (.cells (ca l).toArray t (0, 0))) (hl : l.length ≤ 1000) : IRow W (.slice (some ⟨b, 0, none⟩) l.length l.length) l := by
  refine ⟨_, _, rfl, by omega, fun i hi => ⟨b, 0, rfl, ?_⟩⟩
  obtain ⟨e0, e1, e2, e3⟩ := ca_get l i hi
  have hc : ∀ j v, (ca l)[j]? = some v → W.cell? ⟨b, j, none⟩ = some v := fun j v hj => cell_of h (by rw [← hj]; simp)
  rw [Nat.zero_add]
  exact ⟨hc _ _ e0, hc _ _ e1, hc _ _ e2, hc _ _ e3⟩
theorem frow_lit (h : W.heap[b]? = some (.cells vs.toArray t (0, 0))) (hl : vs.length = fs.length) (hs : fs.length ≤ 1000) (h2 : ∀ i, i < fs.length → IRow W (vs.getD i .nilFunc) (fs.getD i [])) : FRow W (.slice (some ⟨b, 0, none⟩) fs.length fs.length) fs := by
  refine ⟨_, _, rfl, by omega, fun i hi => ⟨b, 0, vs.getD i .nilFunc, rfl, ?_, h2 i hi⟩⟩
  rw [Nat.zero_add]
  exact cell_of h (by rw [List.getElem?_toArray, List.getD_eq_getElem?_getD, List.getElem?_eq_getElem (show i < vs.length by omega)]; rfl)
theorem frow_nil (W : World) : FRow W (.slice none 0 0) [] := ⟨none, 0, rfl, by simp, fun i hi => by simp at hi⟩
def fsT : List (List Ins) := [[(1, 1, 0, 0)]]
theorem pgT : Pg 0 fsT := ⟨by decide, by decide, by decide, fun i hi => by
  obtain rfl : i = 0 := by have hi : i < 1 := hi; omega
  decide, fun i hi j hj => by
  obtain rfl : i = 0 := by have hi : i < 1 := hi; omega
  obtain rfl : j = 0 := by have hj : j < 1 := hj; omega
  decide⟩
def mT0 : Mo := mo0 0
def mT1 : Mo := step fsT mT0 0
def mT2 : Mo := step fsT mT1 0
theorem cT0 : comM fsT mT0 0 = comV 0 0 0 1 1 false := rfl
theorem cT1 : comM fsT mT1 0 = comV 0 0 1 0 0 false := rfl
theorem sT1 : mT1.st.getD 0 0 = 1 ∧ mT1.gs.length = 1 := ⟨rfl, rfl⟩
theorem sT2 : mT2.st.getD 0 0 = 5 ∧ mT2.gs.length = 1 ∧ mT2.ob.length = 1 ∧ mT2.gl = [] ∧ mT2.st.length = 1 := ⟨rfl, rfl, rfl, rfl, rfl⟩
theorem noneR (h : ∀ i, ¬ Rc M i) {zs : List Int} (hz : IsReach M zs) : zs = [] := by
  cases zs with
  | nil => rfl
  | cons x l =>
    obtain ⟨i, _, hi⟩ := (hz.mem x).1 (by simp)
    exact absurd hi (h i)
theorem rT2 : ∀ i, ¬ Rc mT2 i := fun i h => by
  induction h with
  | gl h1 h2 => rw [sT2.2.2.2.1] at h1; cases h1
  | sk h1 h2 h3 h4 =>
    rename_i g z
    obtain rfl : g = 0 := by have := sT2.2.2.2.2; omega
    exact absurd sT2.1 h2
  | ob _ _ _ ih => exact ih
end Md
end Go.Proofs.YtdhkakjiahkjnaaDoor
/- treadmilllaw16.told, its walk. -/
namespace Go.Proofs.YtdhkakjiahkjnaaDoor
open Go.RowKit Go.Lib Fx Ho Gr
set_option linter.unusedVariables false
namespace Md
open Cd (Ins zi ca c4 Tk FRow IRow MayIs CntOk ca_get ca_len)
variable {W0 w w' W : World} {fs : List (List Ins)} {p b : Nat}
set_option maxRecDepth 100000 in
set_option maxHeartbeats 4000000 in
theorem told_any (hT : Tk w) : Calls Tryd.prog 10 #[] w (AnsB (.bool true) w) := by
  have kA := heap_alloc_new w (.cells #[.int .i64 1, .int .i64 1, .int .i64 0, .int .i64 0] 26)
  have bA := below_alloc (Below.refl w.heap.size w) (.cells #[.int .i64 1, .int .i64 1, .int .i64 0, .int .i64 0] 26)
  have kB := heap_alloc_new (w.alloc (.cells #[.int .i64 1, .int .i64 1, .int .i64 0, .int .i64 0] 26)) (.cells #[.slice (some ⟨w.heap.size, 0, none⟩) 1 1] 24)
  have bB := below_alloc bA (.cells #[.slice (some ⟨w.heap.size, 0, none⟩) 1 1] 24)
  have kA2 := ((below_alloc (Below.refl _ (w.alloc (.cells #[.int .i64 1, .int .i64 1, .int .i64 0, .int .i64 0] 26))) (.cells #[.slice (some ⟨w.heap.size, 0, none⟩) 1 1] 24)).block _ (block_lt kA)).trans kA
  rw [s_alloc] at kB
  obtain ⟨U, hU⟩ : ∃ U, (w.alloc (.cells #[.int .i64 1, .int .i64 1, .int .i64 0, .int .i64 0] 26)).alloc (.cells #[.slice (some ⟨w.heap.size, 0, none⟩) 1 1] 24) = U := ⟨_, rfl⟩
  rw [hU] at kB kA2 bB
  have hF : FRow U (.slice (some ⟨w.heap.size + 1, 0, none⟩) 1 1) fsT := frow_lit (vs := [.slice (some ⟨w.heap.size, 0, none⟩) 1 1]) (fs := fsT) kB rfl (by decide) (fun i hi => by
    obtain rfl : i = 0 := by have hi : i < 1 := hi; omega
    exact irow_lit (l := [(1, 1, 0, 0)]) kA2 (by decide))
  have cn := ms_new (hT.below bB) hF (may_of pgT)
  have bB := Lib.hid bB
  have hT := Lib.hid (hT.below bB.out)
  clear kA bA kB kA2 hF
  go_enter Tryd.func10, Tryd.ntmps10
  go_wp2_with fail
  try rw [hU]
  clear hU
  with_reducible refine Calls.mono cn ?_
  rintro e w2 ⟨p, rfl, hm0⟩
  clear cn
  have cn := ms_new_not (hT.out.below hm0.bel) (frow_nil w2) (may_nil 0)
  have hm0 := Lib.hid hm0
  go_wp2_with fail
  with_reducible refine Calls.mono cn ?_
  rintro e w3 ⟨rfl, hb3⟩
  clear cn
  have hm1 := hm0.out.below hb3
  clear hm0 hb3
  have cd : Calls Tryd.prog 6 #[.pointer (some ⟨p, 0, none⟩), .int .i64 0] w3 fun e w' => e = .returned (.tuple #[.agg #[.int .i64 0, .int .i64 0, .int .i64 0, .int .i64 1, .int .i64 1, .bool false], .int .i64 0]) ∧ Ms U w' 0 fsT p mT1 1 (fun k => k ∈ []) := (ms_step (g := 0) (hm1.sub (F' := fun k => k ∈ []) (fun k hk => by cases hk)) pgT (by decide) (by decide) (by decide) rfl).mono fun e w' h => ⟨h.1, h.2.1⟩
  go_wp2_with fail
  with_reducible refine Calls.mono cd ?_
  rintro e w4 ⟨rfl, hm2⟩
  clear cd hm1
  go_upto_region 6 with fail
  obtain ⟨hm3, kA, -⟩ := hm2.var #[.int .i64 0, .int .i64 0, .int .i64 0, .int .i64 1, .int .i64 1, .bool false] 31
  obtain ⟨W4, hW4⟩ : ∃ W, w4.alloc (.cells #[.int .i64 0, .int .i64 0, .int .i64 0, .int .i64 1, .int .i64 1, .bool false] 31) = W := ⟨_, rfl⟩
  rw [hW4] at hm3 kA ⊢
  obtain ⟨Na, hNa⟩ : ∃ N, w4.heap.size = N := ⟨_, rfl⟩
  rw [hNa] at hm3 kA ⊢
  have cd : Calls Tryd.prog 6 #[.pointer (some ⟨p, 0, none⟩), .int .i64 0] W4 fun e w' => e = .returned (.tuple #[.agg #[.int .i64 0, .int .i64 0, .int .i64 1, .int .i64 0, .int .i64 0, .bool false], .int .i64 0]) ∧ Ms U w' 0 fsT p mT2 2 (fun k => k ∈ [Na]) ∧ w'.heap[Na]? = some (.cells #[.int .i64 0, .int .i64 0, .int .i64 0, .int .i64 1, .int .i64 1, .bool false] 31 (0, 0)) := (ms_step (g := 0) hm3 pgT (by decide) (by decide) (by decide) rfl).mono fun e w' h => ⟨h.1, h.2.1, (h.2.2.block (k := Na) (by simp)).trans kA⟩
  clear hm2 hW4 hNa kA hm3
  go_wp2_with fail
  with_reducible refine Calls.mono cd ?_
  rintro e w5 ⟨rfl, hm4, kA⟩
  clear cd
  go_upto_region 7 with fail
  obtain ⟨hm5, kB, kk⟩ := hm4.var #[.int .i64 0, .int .i64 0, .int .i64 1, .int .i64 0, .int .i64 0, .bool false] 31
  have kA := (kk.block (k := Na) (by simp)).trans kA
  obtain ⟨W5, hW5⟩ : ∃ W, w5.alloc (.cells #[.int .i64 0, .int .i64 0, .int .i64 1, .int .i64 0, .int .i64 0, .bool false] 31) = W := ⟨_, rfl⟩
  rw [hW5] at hm5 kA kB ⊢
  obtain ⟨Nb, hNb⟩ : ∃ N, w5.heap.size = N := ⟨_, rfl⟩
  rw [hNb] at hm5 kB ⊢
  have cd : Calls Tryd.prog 6 #[.pointer (some ⟨p, 0, none⟩), .int .i64 0] W5 fun e w' => e = .returned (.tuple #[.agg #[.int .i64 0, .int .i64 0, .int .i64 0, .int .i64 0, .int .i64 0, .bool false], .int .i64 5]) ∧ Ms U w' 0 fsT p mT2 3 (fun k => k ∈ [Nb, Na]) ∧ w'.heap[Na]? = some (.cells #[.int .i64 0, .int .i64 0, .int .i64 0, .int .i64 1, .int .i64 1, .bool false] 31 (0, 0)) ∧ w'.heap[Nb]? = some (.cells #[.int .i64 0, .int .i64 0, .int .i64 1, .int .i64 0, .int .i64 0, .bool false] 31 (0, 0)) := (ms_do hm5 pgT (by decide) (by decide) 0).mono fun e w' ⟨cv, er, M', h1, h2, h3, h4⟩ => by
    have hq : cv = com0 ∧ er = 5 ∧ M' = mT2 := by
      cases h2 with
      | yes g e1 e2 e3 =>
        obtain rfl : g = 0 := by omega
        rw [sT2.1] at e3
        exact absurd e3 (by decide)
      | not g e1 e2 e3 => exact ⟨rfl, rfl, rfl⟩
      | none e1 => exact absurd (by rw [sT2.2.1]; omega) e1
    obtain ⟨rfl, rfl, rfl⟩ := hq
    exact ⟨h1, h3, (h4.block (k := Na) (by simp)).trans kA, (h4.block (k := Nb) (by simp)).trans kB⟩
  clear hm4 hW5 hNb kA kB hm5 kk
  go_wp2_with fail
  with_reducible refine Calls.mono cd ?_
  rintro e w6 ⟨rfl, hm6, kA, kB⟩
  clear cd
  go_upto_region 8 with fail
  have hb6 := below_alloc (Below.refl w6.heap.size w6) (.cells #[.int .i64 0, .int .i64 0, .int .i64 0, .int .i64 0, .int .i64 0, .bool false] 31)
  obtain ⟨W6, hW6⟩ : ∃ W, w6.alloc (.cells #[.int .i64 0, .int .i64 0, .int .i64 0, .int .i64 0, .int .i64 0, .bool false] 31) = W := ⟨_, rfl⟩
  rw [hW6] at hb6 ⊢
  have kA := (hb6.block _ (block_lt kA)).trans kA
  have kB := (hb6.block _ (block_lt kB)).trans kB
  have hm7 := hm6.below hb6
  have a0 := cell_of kA (j := 0) rfl
  have a1 := cell_of kA (j := 1) rfl
  have a2 := cell_of kA (j := 2) rfl
  have a3 := cell_of kA (j := 3) rfl
  have a4 := cell_of kA (j := 4) rfl
  have a5 := cell_of kA (j := 5) rfl
  have b0 := cell_of kB (j := 0) rfl
  have b1 := cell_of kB (j := 1) rfl
  have b2 := cell_of kB (j := 2) rfl
  have b3 := cell_of kB (j := 3) rfl
  have b4 := cell_of kB (j := 4) rfl
  have b5 := cell_of kB (j := 5) rfl
  have ci := ms_ids hm7
  rw [sT2.2.2.1] at ci
  have cr := ms_reach hm7 (by decide)
  have cs : ∀ V, Below W6.heap.size W6 V → Calls Tryd.prog 7 #[.pointer (some ⟨p, 0, none⟩), .int .i64 0] V (Still (.int .i64 5) V) := fun V hV => ms_state (hm7.below hV) 0
  have hbW : Hid (Below w.heap.size w W6) := Lib.hid (bB.out.trans (hm7.bel.mono bB.out.size))
  clear hm6 hb6 hW6 kA kB hm7 hT bB
  go_wp2_with fail
  with_reducible refine Calls.mono ci ?_
  rintro e w7 ⟨rfl, rfl⟩
  clear ci
  go_wp2_with fail
  with_reducible refine Calls.mono cr ?_
  rintro e w8 ⟨v, zs, rfl, hb8, hi8, hz8⟩
  obtain rfl := noneR rT2 hz8
  obtain ⟨sp, cap, rfl, -, -⟩ := hi8
  have cs8 := cs w8 hb8
  have hb8 := Lib.hid (hbW.out.trans (hb8.mono hbW.out.size))
  simp only [List.length_nil]
  clear cr cs hz8 hbW a0 a1 a2 a3 a4 a5 b0 b1 b2 b3 b4 b5
  go_wp2_with fail
  with_reducible refine Calls.mono cs8 ?_
  rintro e w9 ⟨rfl, rfl⟩
  clear cs8
  go_wp2_with fail
  go_ret
  exact ⟨rfl, hb8.out⟩
end Md
end Go.Proofs.YtdhkakjiahkjnaaDoor
/- treadmilllaw16.build. -/
namespace Go.Proofs.YtdhkakjiahkjnaaDoor
open Go.RowKit Go.Lib Fx Ho Gr
set_option linter.unusedVariables false
namespace Md
open Cd (Ins zi ca c4 Tk FRow IRow MayIs CntOk ca_get ca_len)
variable {W0 w w' W : World} {fs : List (List Ins)} {p b G : Nat} {v : Value}
set_option maxRecDepth 100000 in
theorem ms_build (hT : Tk w) (hF : FRow w v fs) (hm : MayIs (G : Int) fs 0) : Calls Tryd.prog 5 #[.int .i64 G, v] w fun e w' => ∃ p, e = .returned (.pointer (some ⟨p, 0, none⟩)) ∧ Ms w w' G fs p (mo0 G) 0 (fun k => k ∈ []) := by
  have cn := ms_new hT hF hm
  obtain ⟨sp, cap, rfl, _⟩ := hF
  clear hT hm
  go_enter Tryd.func5, Tryd.ntmps5
  go_wp2_with fail
  with_reducible refine Calls.mono (cn) ?_
  rintro e w1 ⟨p, rfl, h⟩
  have hfin := Lib.hid (h.sub (F' := fun k => k ∈ []) (fun k hk => by cases hk))
  clear cn h
  go_wp2_with fail
  go_ret
  exact ⟨p, rfl, hfin.out⟩
theorem ms_next_no {F : Nat → Prop} {M : Mo} {K : Nat} (h : Ms W0 w G fs p M K F) (x : Int) (hx : ¬ (0 ≤ x ∧ x < M.st.length)) : Calls Tryd.prog 12 #[.pointer (some ⟨p, 0, none⟩), .int .i64 x] w (AnsB (.tuple #[insV zi, .bool false]) w) := by
  obtain ⟨⟨q, h1, _⟩, _, _⟩ := h
  exact next_no h1 x hx
/-- Do of none. -/
theorem ms_do_no {L : List Nat} {M : Mo} {K : Nat} (h : Ms W0 w G fs p M K (fun k => k ∈ L)) (x : Int) (hx : ¬ (0 ≤ x ∧ x < M.st.length)) : Calls Tryd.prog 6 #[.pointer (some ⟨p, 0, none⟩), .int .i64 x] w fun e w' => e = .returned (.tuple #[.agg #[.int .i64 0, .int .i64 0, .int .i64 0, .int .i64 0, .int .i64 0, .bool false], .int .i64 4]) ∧ Ms W0 w' G fs p M K (fun k => k ∈ L) ∧ Kept (fun k => k ∈ L) w w' := by
  obtain ⟨⟨q, h1, h2⟩, h3, h4⟩ := h
  exact (do_none h1 x hx).mono fun e w' ⟨he, q', hT⟩ => ⟨he, ms_turn h1 h2 h4 hT h3⟩
def fsX : List (List Ins) := [[zi]]
theorem pgX : Pg 0 fsX := ⟨by decide, by decide, by decide, fun i hi => by
  obtain rfl : i = 0 := by have hi : i < 1 := hi; omega
  decide, fun i hi j hj => by
  obtain rfl : i = 0 := by have hi : i < 1 := hi; omega
  obtain rfl : j = 0 := by have hj : j < 1 := hj; omega
  decide⟩
end Md
end Go.Proofs.YtdhkakjiahkjnaaDoor
/- Two models of one program, side by side; a law's own rows beside them. -/
namespace Go.Proofs.YtdhkakjiahkjnaaDoor
open Go.RowKit Go.Lib Fx Ho Gr
set_option linter.unusedVariables false
namespace Md
open Cd (Ins zi ca c4 Tk FRow IRow MayIs CntOk)
variable {W0 w w' : World} {fs : List (List Ins)} {p pa pb : Nat} {q q' : Pl} {M M' Ma Mb : Mo} {g n i G K : Nat} {F F' : Nat → Prop}
/-- What is of F is as it was. -/
def Kpt (F : Nat → Prop) (w w' : World) : Prop := ∃ H H', Wrote H w H' w' ∧ ∀ k, F k → ¬ H k
/-- Two models, apart, made since W0; blocks of F are of neither. -/
def Pr (W0 w : World) (fs : List (List Ins)) (pa pb : Nat) (Ma Mb : Mo) (F : Nat → Prop) : Prop := ∃ qa qb, IsM W0 w fs pa qa Ma ∧ IsM W0 w fs pb qb Mb ∧ (∀ k, own pa qa k → ¬ own pb qb k) ∧ ∀ k, F k → W0.heap.size ≤ k ∧ k < w.heap.size ∧ ¬ own pa qa k ∧ ¬ own pb qb k
theorem Pr.swap (h : Pr W0 w fs pa pb Ma Mb F) : Pr W0 w fs pb pa Mb Ma F := by
  obtain ⟨qa, qb, h1, h2, h3, h4⟩ := h
  exact ⟨qb, qa, h2, h1, fun k hk hh => h3 k hh hk, fun k hk => ⟨(h4 k hk).1, (h4 k hk).2.1, (h4 k hk).2.2.2, (h4 k hk).2.2.1⟩⟩
theorem Pr.bel (h : Pr W0 w fs pa pb Ma Mb F) : Below W0.heap.size W0 w := by obtain ⟨qa, qb, h1, h2, h3, h4⟩ := h; exact h1.bel
theorem Pr.below (h : Pr W0 w fs pa pb Ma Mb F) (hb : Below w.heap.size w w') : Pr W0 w' fs pa pb Ma Mb F := by
  obtain ⟨qa, qb, h1, h2, h3, h4⟩ := h
  exact ⟨qa, qb, h1.below hb, h2.below hb, h3, fun k hk => ⟨(h4 k hk).1, Nat.lt_of_lt_of_le (h4 k hk).2.1 hb.size, (h4 k hk).2.2⟩⟩
/-- A row of the law's own has turned: of old blocks of F, and new ones. -/
theorem Pr.wrote {H H' : Home} (h : Pr W0 w fs pa pb Ma Mb F) (hw : Wrote H w H' w') (hH : ∀ k, H k → F k) (hF' : ∀ k, F' k → F k ∨ H' k) (hlt : ∀ k, H' k → k < w'.heap.size) : Pr W0 w' fs pa pb Ma Mb F' := by
  obtain ⟨qa, qb, h1, h2, h3, h4⟩ := h
  refine ⟨qa, qb, h1.aside hw (fun k hk => (h4 k (hH k hk)).1) (fun i k hi hk hh => (h4 k (hH k hh)).2.2.1 ⟨i, hi, hk⟩), h2.aside hw (fun k hk => (h4 k (hH k hk)).1) (fun i k hi hk hh => (h4 k (hH k hh)).2.2.2 ⟨i, hi, hk⟩), h3, fun k hk => ?_⟩
  have hs := hw.size
  have h0 := h1.bel.size
  have old : F k → W0.heap.size ≤ k ∧ k < w'.heap.size ∧ ¬ own pa qa k ∧ ¬ own pb qb k := fun e => ⟨(h4 k e).1, by have := (h4 k e).2.1; omega, (h4 k e).2.2⟩
  rcases hF' k hk with e | e
  · exact old e
  · rcases hw.home k e with e2 | e2
    · exact old (hH k e2)
    · exact ⟨by omega, hlt k e, fun hh => by have := (own_low h1 hh).2; omega, fun hh => by have := (own_low h2 hh).2; omega⟩
theorem pr_turn {qa qa' qb : Pl} (h1 : IsM W0 w fs pa qa Ma) (h2 : IsM W0 w fs pb qb Mb) (h3 : ∀ k, own pa qa k → ¬ own pb qb k) (h4 : ∀ k, F k → W0.heap.size ≤ k ∧ k < w.heap.size ∧ ¬ own pa qa k ∧ ¬ own pb qb k) (hT : Tn W0 w fs pa qa w' qa' M') : Pr W0 w' fs pa pb M' Mb F ∧ Kpt F w w' := by
  have hw := tn_wrote h1 hT
  refine ⟨⟨qa', qb, hT.is, h2.aside hw (fun k hk => (own_low h1 hk).1) (fun i k hi hk hh => h3 k hh ⟨i, hi, hk⟩), fun k hk hh => ?_, fun k hk => ⟨(h4 k hk).1, Nat.lt_of_lt_of_le (h4 k hk).2.1 hw.size, fun hh => ?_, (h4 k hk).2.2.2⟩⟩, _, _, hw, fun k hk => (h4 k hk).2.2.1⟩
  · exact (hw.home k hk).elim (fun e => h3 k e hh) (fun e => by have := (own_low h2 hh).2; omega)
  · exact (hw.home k hh).elim (h4 k hk).2.2.1 (fun e => by have := (h4 k hk).2.1; omega)
/-- Do of the first goroutine of the one, while the other stands. -/
theorem pr_do (h : Pr W0 w fs pa pb Ma Mb F) (hI : Inv G fs Ma K) (hP : Pg G fs) (hK : K < 90000) (hG : Ma.gs.length < 1000) : Calls Tryd.prog 6 #[.pointer (some ⟨pa, 0, none⟩), .int .i64 0] w fun e w' => ∃ cv er M', e = .returned (.tuple #[cv, .int .i64 er]) ∧ DoIs fs Ma 0 cv er M' ∧ Pr W0 w' fs pa pb M' Mb F ∧ Kpt F w w' := by
  obtain ⟨qa, qb, h1, h2, h3, h4⟩ := h
  have hl := hI.len
  by_cases hx : 0 < Ma.gs.length
  · by_cases h1s : Ma.st.getD 0 0 = 1
    · refine (do_step h1 hP hI hK hG hx h1s).mono fun e w' ⟨he, q', hT⟩ => ?_
      obtain ⟨k1, k2⟩ := pr_turn h1 h2 h3 h4 hT
      exact ⟨_, _, _, he, .yes 0 rfl hx h1s, k1, k2⟩
    · have hne : Ma.st.getD 0 0 ≠ 0 := fun e => by
        rcases hI.st _ (getD_mem 0 (show 0 < Ma.st.length by omega)) with e2 | e2 | e2 <;> (rw [e] at e2; exact absurd e2 (by decide))
      refine (do_not h1 (by omega) rfl hne h1s).mono fun e w' ⟨he, q', hT⟩ => ?_
      obtain ⟨k1, k2⟩ := pr_turn h1 h2 h3 h4 hT
      exact ⟨_, _, _, he, .not 0 rfl hx h1s, k1, k2⟩
  · refine (do_none h1 0 (by rw [hl]; omega)).mono fun e w' ⟨he, q', hT⟩ => ?_
    obtain ⟨k1, k2⟩ := pr_turn h1 h2 h3 h4 hT
    exact ⟨_, _, _, he, .none (by omega), k1, k2⟩
/-- How the first goroutine goes on by itself. -/
def tj (fs : List (List Ins)) (G : Nat) : Nat → Mo
  | 0 => mo0 G
  | i + 1 => step fs (tj fs G i) 0
def Runs (fs : List (List Ins)) (G i : Nat) : Prop := ∀ j, j < i → (tj fs G j).st.getD 0 0 = 1
theorem tj_inv (hP : Pg G fs) : ∀ i, Runs fs G i → Inv G fs (tj fs G i) i ∧ (tj fs G i).gs.length ≤ i + 1
  | 0, _ => ⟨inv0 hP, Nat.le_refl _⟩
  | i + 1, h => by
    obtain ⟨h1, h2⟩ := tj_inv hP i (fun j hj => h j (by omega))
    have hr := h i (by omega)
    have hg : 0 < (tj fs G i).gs.length := by
      have hl := h1.len
      rcases Nat.eq_zero_or_pos (tj fs G i).st.length with e | e
      · rw [getD_none (by omega)] at hr; exact absurd hr (by decide)
      · omega
    have hw := went_any hP h1 hg hr
    exact ⟨hw.inv, by have := hw.few; show (step fs (tj fs G i) 0).gs.length ≤ _; unfold step; show (outI fs (tj fs G i) 0).1.gs.length ≤ _; omega⟩
/-- A commit's cells. -/
def cc (fs : List (List Ins)) (G j : Nat) : List Value := [.int .i64 0, .int .i64 ((tj fs G j).gs.getD 0 g0).f, .int .i64 ((tj fs G j).gs.getD 0 g0).pc, .int .i64 (insAt fs (tj fs G j) 0).1, .int .i64 (outI fs (tj fs G j) 0).2.1, .bool (outI fs (tj fs G j) 0).2.2.2]
def xs (fs : List (List Ins)) (G : Nat) : Nat → List Value
  | 0 => []
  | i + 1 => xs fs G i ++ cc fs G i
theorem xs_len (fs : List (List Ins)) (G : Nat) : ∀ i, (xs fs G i).length = i * 6
  | 0 => rfl
  | i + 1 => by unfold xs; rw [List.length_append, xs_len fs G i]; show i * 6 + 6 = _; omega
theorem xs_at (fs : List (List Ins)) (G : Nat) {j : Nat} : ∀ i, j < i → ∀ k, k < 6 → (xs fs G i)[j * 6 + k]? = (cc fs G j)[k]?
  | 0, h, _, _ => by omega
  | i + 1, h, k, hk => by
    unfold xs
    by_cases e : j < i
    · rw [List.getElem?_append_left (by rw [xs_len]; omega)]
      exact xs_at fs G i e k hk
    · obtain rfl : j = i := by omega
      rw [List.getElem?_append_right (by rw [xs_len]; omega), xs_len, show j * 6 + k - j * 6 = k by omega]
/-- Two models made one behind the other. -/
theorem pr_of (h1 : Ms W0 w G fs pa (mo0 G) 0 F') {w2 : World} (h2 : Ms w w2 G fs pb (mo0 G) 0 F) : Pr W0 w2 fs pa pb (mo0 G) (mo0 G) (fun _ => False) := by
  obtain ⟨⟨qa, a1, _⟩, _, _⟩ := h1
  obtain ⟨⟨qb, b1, _⟩, _, _⟩ := h2
  have a2 := a1.below b1.bel
  refine ⟨qa, qb, a2, b1.base a1.bel, fun k hk hh => ?_, fun k h => h.elim⟩
  have := (own_low a1 hk).2
  have := (own_low b1 hh).1
  omega
/-- Where ModelAlone's first loop stands. -/
structure Al (W0 wr : World) (fs : List (List Ins)) (G pa pb ia ib : Nat) (vx vy : Value) (k : Nat) : Prop where
  pr : Pr W0 wr fs pa pb (tj fs G ia) (tj fs G ib) (fun k => vx.ownBlock = some k ∨ vy.ownBlock = some k)
  ra : Runs fs G ia
  rb : Runs fs G ib
  ka : ia ≤ k
  kb : ib ≤ k
  rx : GRow 6 wr vx ia (xs fs G ia)
  ry : GRow 6 wr vy ib (xs fs G ib)
  off : ∀ k, vx.ownBlock = some k → vy.ownBlock ≠ some k
theorem Al.swap {ia ib k : Nat} {vx vy : Value} (h : Al W0 w fs G pa pb ia ib vx vy k) : Al W0 w fs G pb pa ib ia vy vx k := by
  refine ⟨?_, h.rb, h.ra, h.kb, h.ka, h.ry, h.rx, fun k hk hh => h.off k hh hk⟩
  obtain ⟨qa, qb, h1, h2, h3, h4⟩ := h.pr.swap
  exact ⟨qa, qb, h1, h2, h3, fun k hk => h4 k hk.symm⟩
theorem Al.below {ia ib k : Nat} {vx vy : Value} (h : Al W0 w fs G pa pb ia ib vx vy k) (hb : Below w.heap.size w w') : Al W0 w' fs G pa pb ia ib vx vy k :=
  ⟨h.pr.below hb, h.ra, h.rb, h.ka, h.kb, h.rx.below hb, h.ry.below hb, h.off⟩
theorem Al.late {ia ib k : Nat} {vx vy : Value} (h : Al W0 w fs G pa pb ia ib vx vy k) : Al W0 w fs G pa pb ia ib vx vy (k + 1) :=
  ⟨h.pr, h.ra, h.rb, by have := h.ka; omega, by have := h.kb; omega, h.rx, h.ry, h.off⟩
/-- Do of the one: what is told, and how the loop stands then, but for the row. -/
theorem al_do {ia ib k : Nat} {vx vy : Value} (h : Al W0 w fs G pa pb ia ib vx vy k) (hP : Pg G fs) (hk : k ≤ 200) : Calls Tryd.prog 6 #[.pointer (some ⟨pa, 0, none⟩), .int .i64 0] w fun e w' => (∃ er, er ≠ 0 ∧ e = .returned (.tuple #[.agg #[.int .i64 0, .int .i64 0, .int .i64 0, .int .i64 0, .int .i64 0, .bool false], .int .i64 er]) ∧ Al W0 w' fs G pa pb ia ib vx vy k) ∨ (∃ f pc op v ft, cc fs G ia = [.int .i64 0, .int .i64 f, .int .i64 pc, .int .i64 op, .int .i64 v, .bool ft] ∧ e = .returned (.tuple #[.agg #[.int .i64 0, .int .i64 f, .int .i64 pc, .int .i64 op, .int .i64 v, .bool ft], .int .i64 0]) ∧ Runs fs G (ia + 1) ∧ Pr W0 w' fs pa pb (tj fs G (ia + 1)) (tj fs G ib) (fun k => vx.ownBlock = some k ∨ vy.ownBlock = some k) ∧ GRow 6 w' vx ia (xs fs G ia) ∧ GRow 6 w' vy ib (xs fs G ib)) := by
  obtain ⟨h1, h2⟩ := tj_inv hP ia h.ra
  have hka := h.ka
  refine (pr_do h.pr h1 hP (by omega) (by omega)).mono fun e w' ⟨cv, er, M', he, hd, hpr, H, H', hkw, hkp⟩ => ?_
  have hrx := h.rx.wrote hkw (fun k hk2 => hkp k (.inl hk2))
  have hry := h.ry.wrote hkw (fun k hk2 => hkp k (.inr hk2))
  cases hd with
  | yes g e1 e2 e3 =>
    obtain rfl : g = 0 := by omega
    refine .inr ⟨_, _, _, _, _, rfl, he, fun j hj => ?_, hpr, hrx, hry⟩
    rcases Nat.lt_or_ge j ia with e4 | e4
    · exact h.ra j e4
    · obtain rfl : j = ia := by omega
      exact e3
  | not g e1 e2 e3 => exact .inl ⟨5, by decide, he, hpr, h.ra, h.rb, h.ka, h.kb, hrx, hry, h.off⟩
  | none e1 => exact .inl ⟨4, by decide, he, hpr, h.ra, h.rb, h.ka, h.kb, hrx, hry, h.off⟩
/-- What was told is put behind the row. -/
theorem Al.put {ia ib k : Nat} {vx vy v8 : Value} {W6 w8 : World} (h : Al W0 w fs G pa pb ia ib vx vy k) (hr : Runs fs G (ia + 1)) (hp : Pr W0 w' fs pa pb (tj fs G (ia + 1)) (tj fs G ib) (fun k => vx.ownBlock = some k ∨ vy.ownBlock = some k)) (hy : GRow 6 w' vy ib (xs fs G ib)) (hx : GRow 6 w' vx ia (xs fs G ia)) (hb : Below w'.heap.size w' W6) (g1 : GRow 6 w8 v8 (ia + 1) (xs fs G ia ++ cc fs G ia)) (g2 : Wrote (fun k => vx.ownBlock = some k) W6 (fun k => v8.ownBlock = some k) w8) : Al W0 w8 fs G pa pb (ia + 1) ib v8 vy (k + 1) := by
  have hyl : ∀ k, vy.ownBlock = some k → k < w'.heap.size := fun k hk => hy.lt hk
  have hsz := hb.size
  refine ⟨(hp.below hb).wrote g2 (fun k hk => .inl hk) (fun k hk => hk.symm.imp .inr (fun e => e)) (fun k hk => g1.lt hk), hr, h.rb, by have := h.ka; omega, by have := h.kb; omega, g1, (hy.below hb).wrote g2 (fun k hk hh => h.off k hh hk), fun k hk hh => ?_⟩
  rcases g2.home k hk with e | e
  · exact h.off k e hh
  · have := hyl k hh; omega
end Md
end Go.Proofs.YtdhkakjiahkjnaaDoor
