import Derived.Test.YtdhkakjiahkjnaaDoorMB8
import Derived.WalkKit
import Derived.ProofKit
import Derived.Test.YtdhkakjiahkjnaaDoorMB5
/- ModelSleeps: its program, and how three fall asleep. -/
namespace Go.Proofs.YtdhkakjiahkjnaaDoor
open Go.RowKit Go.Lib Fx Ho Gr
set_option linter.unusedVariables false
namespace Md
open Cd (Ins zi ca c4 okI hasB bnd kd okAt ca_len ca_get)
variable {a b c : Nat} {M : Mo}
def slI (n : Nat) : Ins := (10, 0, ((n / 256 : Nat) : Int), ((n % 256 : Nat) : Int))
def fsS (a b c : Nat) : List (List Ins) := [[(8, 1, 0, 0), (8, 2, 0, 0), slI a], [slI b], [slI c]]
theorem three_cases {P : Nat → Prop} (h0 : P 0) (h1 : P 1) (h2 : P 2) : ∀ i, i < 3 → P i := fun i hi => by
  rcases (show i = 0 ∨ i = 1 ∨ i = 2 by omega) with rfl | rfl | rfl
  · exact h0
  · exact h1
  · exact h2
theorem slI_ok (n f l : Nat) (hn : n < 500) : okI 0 f l (slI n) = true := by
  have h1 : n / 256 < 256 := by omega
  have h2 : n % 256 < 256 := by omega
  simp [okI, hasB, bnd, kd, Cd.kinds, slI] <;> omega
theorem pgS (ha : a < 500) (hb : b < 500) (hc : c < 500) : Pg 0 (fsS a b c) := by
  refine ⟨by show 3 ≤ 16; omega, by show 1 ≤ 3; omega, by omega, three_cases ⟨by show 1 ≤ 3; omega, by show 3 ≤ 64; omega⟩ ⟨by show 1 ≤ 1; omega, by show 1 ≤ 64; omega⟩ ⟨by show 1 ≤ 1; omega, by show 1 ≤ 64; omega⟩, three_cases (fun j hj => ?_) (fun j hj => ?_) (fun j hj => ?_)⟩
  · have hj : j < 3 := hj
    rcases (show j = 0 ∨ j = 1 ∨ j = 2 by omega) with rfl | rfl | rfl
    · show okI 0 3 3 (8, 1, 0, 0) = true; decide
    · show okI 0 3 3 (8, 2, 0, 0) = true; decide
    · exact slI_ok a 3 3 ha
  · obtain rfl : j = 0 := by have hj : j < 1 := hj; omega
    exact slI_ok b 3 1 hb
  · obtain rfl : j = 0 := by have hj : j < 1 := hj; omega
    exact slI_ok c 3 1 hc
def gS (f pc : Nat) : Gor := ⟨f, pc, 0, List.replicate 16 0⟩
def tmS (n g : Nat) : Sl := ((n : Int) + 1, (g : Int), (g : Int))
def sS1 : Mo := ⟨[gS 0 1, gS 1 0], [1, 1], [], [], 0, [], 0, fun _ => []⟩
def sS2 : Mo := ⟨[gS 0 2, gS 1 0, gS 2 0], [1, 1, 1], [], [], 0, [], 0, fun _ => []⟩
def sS3 (a : Nat) : Mo := ⟨[gS 0 3, gS 1 0, gS 2 0], [3, 1, 1], [], [], 0, [tmS a 0], 1, fun _ => []⟩
def sS4 (a b : Nat) : Mo := ⟨[gS 0 3, gS 1 1, gS 2 0], [3, 3, 1], [], [], 0, [tmS a 0, tmS b 1], 2, fun _ => []⟩
def sS5 (a b c : Nat) : Mo := ⟨[gS 0 3, gS 1 1, gS 2 1], [3, 3, 3], [], [], 0, [tmS a 0, tmS b 1, tmS c 2], 3, fun _ => []⟩
theorem stS0 : step (fsS a b c) (mo0 0) 0 = sS1 := rfl
theorem stS1 : step (fsS a b c) sS1 0 = sS2 := rfl
theorem tm_eq (n : Nat) (g k : Nat) : ((0 : Int) + ((256 * (n / 256) + n % 256 + 1 : Nat) : Int), (g : Int), (k : Int)) = ((n : Int) + 1, (g : Int), (k : Int)) := by
  rw [show 256 * (n / 256) + n % 256 + 1 = n + 1 by omega, Int.zero_add]; rfl
theorem stS2 : step (fsS a b c) sS2 0 = sS3 a := by
  have ho : outI (fsS a b c) sS2 0 = (⟨[gS 0 3, gS 1 0, gS 2 0], [2, 1, 1], [], [], 0, [((0 : Int) + ((256 * (a / 256) + a % 256 + 1 : Nat) : Int), ((0 : Nat) : Int), ((0 : Nat) : Int))], 1, fun _ => []⟩, 0, 3, false) := rfl
  rw [tm_eq] at ho
  unfold step; rw [ho]; rfl
theorem stS3 : step (fsS a b c) (sS3 a) 1 = sS4 a b := by
  have ho : outI (fsS a b c) (sS3 a) 1 = (⟨[gS 0 3, gS 1 1, gS 2 0], [3, 2, 1], [], [], 0, [tmS a 0, ((0 : Int) + ((256 * (b / 256) + b % 256 + 1 : Nat) : Int), ((1 : Nat) : Int), ((1 : Nat) : Int))], 2, fun _ => []⟩, 0, 3, false) := rfl
  rw [tm_eq] at ho
  unfold step; rw [ho]; rfl
theorem stS4 : step (fsS a b c) (sS4 a b) 2 = sS5 a b c := by
  have ho : outI (fsS a b c) (sS4 a b) 2 = (⟨[gS 0 3, gS 1 1, gS 2 1], [3, 3, 2], [], [], 0, [tmS a 0, tmS b 1, ((0 : Int) + ((256 * (c / 256) + c % 256 + 1 : Nat) : Int), ((2 : Nat) : Int), ((2 : Nat) : Int))], 3, fun _ => []⟩, 0, 3, false) := rfl
  rw [tm_eq] at ho
  unfold step; rw [ho]; rfl
/-- How long each sleeps. -/
def tt (a b c g : Nat) : Nat := if g = 0 then a else if g = 1 then b else c
/-- So many ticks later: who sleeps, who is awake. -/
structure Sp (a b c now : Nat) (M : Mo) : Prop where
  ck : M.ck = (now : Int)
  gs : M.gs.length = 3
  ln : M.st.length = 3
  st : ∀ g, g < 3 → M.st.getD g 0 = if tt a b c g + 1 ≤ now then 1 else 3
  tm : ∀ s, s ∈ M.tm ↔ ∃ g, g < 3 ∧ s = tmS (tt a b c g) g ∧ now < tt a b c g + 1
theorem sp_start : Sp a b c 0 (sS5 a b c) := by
  refine ⟨rfl, rfl, rfl, three_cases ?_ ?_ ?_, fun s => ?_⟩
  · rw [if_neg (by omega)]; rfl
  · rw [if_neg (by omega)]; rfl
  · rw [if_neg (by omega)]; rfl
  · show s ∈ [tmS a 0, tmS b 1, tmS c 2] ↔ _
    simp only [List.mem_cons, List.not_mem_nil, or_false]
    constructor
    · rintro (rfl | rfl | rfl)
      · exact ⟨0, by omega, rfl, by omega⟩
      · exact ⟨1, by omega, rfl, by omega⟩
      · exact ⟨2, by omega, rfl, by omega⟩
    · rintro ⟨g, hg, rfl, _⟩
      rcases (show g = 0 ∨ g = 1 ∨ g = 2 by omega) with rfl | rfl | rfl
      · exact .inl rfl
      · exact .inr (.inl rfl)
      · exact .inr (.inr rfl)
variable {now s : Nat} {D T : List Sl}
theorem sp_D (h : Sp a b c now M) (hd : Pt.Ds M.tm D T) (h1 : ∀ x ∈ D, x.1 ≤ M.ck + s) {x : Sl} (hx : x ∈ D) : ∃ g, g < 3 ∧ x = tmS (tt a b c g) g ∧ now < tt a b c g + 1 ∧ tt a b c g + 1 ≤ now + s := by
  obtain ⟨g, hg, e, hn⟩ := (h.tm x).1 (hd.perm.mem_iff.1 (List.mem_append_left _ hx))
  have := h1 x hx
  rw [h.ck, e] at this
  have this : (tt a b c g : Int) + 1 ≤ (now : Int) + s := this
  exact ⟨g, hg, e, hn, by omega⟩
/-- A tick. -/
theorem Sp.tick (h : Sp a b c now M) (hd : Pt.Ds M.tm D T) (h1 : ∀ x ∈ D, x.1 ≤ M.ck + s) (h2 : ∀ x ∈ T, M.ck + s < x.1) : Sp a b c (now + s) (tickM M (M.ck + s) D T) := by
  have hD : ∀ y ∈ D.map (·.2.1), 0 ≤ y := fun y hy => by
    obtain ⟨x, hx, rfl⟩ := List.mem_map.1 hy
    obtain ⟨g, hg, e, _⟩ := sp_D h hd h1 hx
    rw [e]; show (0 : Int) ≤ (g : Int); omega
  have hin : ∀ g, g < 3 → now < tt a b c g + 1 → tt a b c g + 1 ≤ now + s → tmS (tt a b c g) g ∈ D := fun g hg e1 e2 => by
    have := hd.perm.mem_iff.2 ((h.tm (tmS (tt a b c g) g)).2 ⟨g, hg, rfl, e1⟩)
    rcases List.mem_append.1 this with e | e
    · exact e
    · have := h2 _ e
      rw [h.ck] at this
      have this : (now : Int) + s < (tt a b c g : Int) + 1 := this
      omega
  refine ⟨by show M.ck + s = _; rw [h.ck]; rfl, h.gs, by show (wakeAll M.st _).length = 3; rw [wakeAll_len, h.ln], fun g hg => ?_, fun x => ?_⟩
  · show (wakeAll M.st (D.map (·.2.1))).getD g 0 = _
    by_cases hm : (g : Int) ∈ D.map (·.2.1)
    · rw [wakeAll_in _ _ _ hD (by rw [h.ln]; exact hg) hm]
      obtain ⟨x, hx, e⟩ := List.mem_map.1 hm
      obtain ⟨g', hg', e2, e3, e4⟩ := sp_D h hd h1 hx
      rw [e2] at e
      have e : (g' : Int) = (g : Int) := e
      obtain rfl : g' = g := by omega
      rw [if_pos e4]
    · rw [wakeAll_out _ _ _ hD hm, h.st g hg]
      by_cases e1 : tt a b c g + 1 ≤ now
      · rw [if_pos e1, if_pos (by omega)]
      · rw [if_neg e1, if_neg (fun e2 => hm (List.mem_map.2 ⟨_, hin g hg (by omega) e2, rfl⟩))]
  · show x ∈ T ↔ _
    constructor
    · intro hx
      obtain ⟨g, hg, e, hn⟩ := (h.tm x).1 (hd.perm.mem_iff.1 (List.mem_append_right _ hx))
      have := h2 x hx
      rw [h.ck, e] at this
      have this : (now : Int) + s < (tt a b c g : Int) + 1 := this
      exact ⟨g, hg, e, by omega⟩
    · rintro ⟨g, hg, rfl, hn⟩
      have := hd.perm.mem_iff.2 ((h.tm (tmS (tt a b c g) g)).2 ⟨g, hg, rfl, by omega⟩)
      rcases List.mem_append.1 this with e | e
      · have := h1 _ e
        rw [h.ck] at this
        have this : (tt a b c g : Int) + 1 ≤ (now : Int) + s := this
        omega
      · exact e
/-- Who is told, one by one: in the order of their times, and of like ones of their numbers. -/
theorem sp_order (h : Sp a b c now M) (hd : Pt.Ds M.tm D T) (h1 : ∀ x ∈ D, x.1 ≤ M.ck + s) {i : Nat} (hi : i < D.length) : ∃ g : Nat, g < 3 ∧ (D.map (·.2.1)).getD i 0 = (g : Int) ∧ now < tt a b c g + 1 ∧ tt a b c g + 1 ≤ now + s ∧ (0 < i → ∃ g' : Nat, g' < 3 ∧ (D.map (·.2.1)).getD (i - 1) 0 = (g' : Int) ∧ (tt a b c g' < tt a b c g ∨ tt a b c g' = tt a b c g ∧ g' ≤ g)) := by
  have hk : ∀ j (hj : j < D.length), (D.map (·.2.1)).getD j 0 = D[j].2.1 := fun j hj => by
    rw [List.getD_eq_getElem?_getD, List.getElem?_map, List.getElem?_eq_getElem hj]; rfl
  obtain ⟨g, hg, e, e1, e2⟩ := sp_D h hd h1 (List.getElem_mem hi)
  refine ⟨g, hg, by rw [hk i hi, e]; rfl, e1, e2, fun h0 => ?_⟩
  have hi1 : i - 1 < D.length := by omega
  obtain ⟨g', hg', e', e1', e2'⟩ := sp_D h hd h1 (List.getElem_mem hi1)
  have ho := List.pairwise_iff_getElem.1 hd.rise (i - 1) i hi1 hi (by omega)
  rw [e, e'] at ho
  unfold Sl.ahead at ho
  rw [decide_eq_false_iff_not] at ho
  have ho : ¬ ((tt a b c g : Int) + 1 < (tt a b c g' : Int) + 1 ∨ (tt a b c g : Int) + 1 = (tt a b c g' : Int) + 1 ∧ (g : Int) < (g' : Int)) := ho
  exact ⟨g', hg', by rw [hk _ hi1, e']; rfl, by omega⟩
/-- Who is told of is awake; where nobody is told, nobody's time has come. -/
theorem sp_none (h : Sp a b c now M) (hd : Pt.Ds M.tm D T) (h2 : ∀ x ∈ T, M.ck + s < x.1) (hD : D.length = 0) : ∀ g, g < 3 → now < tt a b c g + 1 → now + s < tt a b c g + 1 := fun g hg e1 => by
  have := hd.perm.mem_iff.2 ((h.tm (tmS (tt a b c g) g)).2 ⟨g, hg, rfl, e1⟩)
  rcases List.mem_append.1 this with e | e
  · rw [List.eq_nil_of_length_eq_zero hD] at e; cases e
  · have := h2 _ e
    rw [h.ck] at this
    have this : (now : Int) + s < (tt a b c g : Int) + 1 := this
    omega
theorem sp_stX (h : Sp a b c now M) {g : Nat} (hg : g < 3) : stX M g = if tt a b c g + 1 ≤ now then 1 else 3 := by
  unfold stX
  rw [if_pos (by rw [h.ln]; omega), Int.toNat_natCast, h.st g hg]
/-- The three times, as they lie. -/
theorem tcell {W : World} {N : Nat} {t : TypeId} (h : W.heap[N]? = some (.cells #[.int .i64 a, .int .i64 b, .int .i64 c] t (0, 0))) {g : Nat} (hg : g < 3) : W.cell? ⟨N, g, none⟩ = some (.int .i64 (tt a b c g)) := by
  rcases (show g = 0 ∨ g = 1 ∨ g = 2 by omega) with rfl | rfl | rfl
  · exact cell_of h (j := 0) rfl
  · exact cell_of h (j := 1) rfl
  · exact cell_of h (j := 2) rfl
theorem tt_lt (ha : a < 500) (hb : b < 500) (hc : c < 500) (g : Nat) : tt a b c g < 500 := by
  unfold tt; split
  · exact ha
  · split
    · exact hb
    · exact hc
/-- The model behind so many of the first five steps. -/
def sq (a b c : Nat) : Nat → Mo
  | 0 => mo0 0
  | 1 => sS1
  | 2 => sS2
  | 3 => sS3 a
  | 4 => sS4 a b
  | _ => sS5 a b c
theorem sq_step (a b c : Nat) : ∀ i, i < 5 → step (fsS a b c) (sq a b c i) (i - 2) = sq a b c (i + 1) ∧ i - 2 < (sq a b c i).gs.length ∧ (sq a b c i).gs.length < 1000 ∧ (sq a b c i).st.getD (i - 2) 0 = 1
  | 0, _ => ⟨stS0, by show 0 < 1; omega, by show 1 < 1000; omega, rfl⟩
  | 1, _ => ⟨stS1, by show 0 < 2; omega, by show 2 < 1000; omega, rfl⟩
  | 2, _ => ⟨stS2, by show 0 < 3; omega, by show 3 < 1000; omega, rfl⟩
  | 3, _ => ⟨stS3, by show 1 < 3; omega, by show 3 < 1000; omega, rfl⟩
  | 4, _ => ⟨stS4, by show 2 < 3; omega, by show 3 < 1000; omega, rfl⟩
  | n + 5, h => by omega
end Md
end Go.Proofs.YtdhkakjiahkjnaaDoor
/- ModelSleeps: the function that makes a sleep. -/
namespace Go.Proofs.YtdhkakjiahkjnaaDoor
open Go.RowKit Go.Lib Fx Ho Gr
set_option linter.unusedVariables false
namespace Md
open Cd (Ins zi ca c4)
variable {w : World}
set_option maxRecDepth 100000 in
theorem sclos (n : Nat) (hn : n < 1000) : Calls Tryd.prog 4 #[.int .i64 n] w fun e w' => e = .returned (.slice (some ⟨w.heap.size, 0, none⟩) 1 1) ∧ w' = w.alloc (.cells (ca [slI n]).toArray 26) := by
  have n0 : (0 : Int) ≤ (n : Int) := by omega
  go_enter Tryd.func4, Tryd.ntmps4
  go_wp2_with fail
  go_ret
  rw [band n hn, bdiv]
  exact ⟨rfl, rfl⟩
end Md
end Go.Proofs.YtdhkakjiahkjnaaDoor
/- ModelSleeps: a tick, as the law sees it. -/
namespace Go.Proofs.YtdhkakjiahkjnaaDoor
open Go.RowKit Go.Lib Fx Ho Gr
set_option linter.unusedVariables false
namespace Md
open Cd (Ins zi ca c4)
variable {a b c now s p n : Nat} {U w : World} {M : Mo} {sp : Option Addr}
/-- Who was woken, one by one, as they lie. -/
def WokeS (a b c now s n : Nat) (sp : Option Addr) (w' : World) : Prop := ∀ i, i < n → ∃ (g b' off : Nat), sp = some ⟨b', off, none⟩ ∧ w'.cell? ⟨b', off + i, none⟩ = some (.int .i64 g) ∧ g < 3 ∧ now < tt a b c g + 1 ∧ tt a b c g + 1 ≤ now + s ∧ ∀ j, i = j + 1 → ∃ g' : Nat, w'.cell? ⟨b', off + j, none⟩ = some (.int .i64 g') ∧ g' < 3 ∧ (tt a b c g' < tt a b c g ∨ tt a b c g' = tt a b c g ∧ g' ≤ g)
theorem tickS (h : Ms U w 0 (fsS a b c) p M (5 + now) (fun k => k ∈ [])) (hsp : Sp a b c now M) (hn : now ≤ 80000) (hs : s ≤ 500) (hs1 : 1 ≤ s) : Calls Tryd.prog 9 #[.pointer (some ⟨p, 0, none⟩), .int .i64 s] w fun e w' => ∃ (sp : Option Addr) (n cap : Nat), e = .returned (.slice sp n cap) ∧ n ≤ 9223372036854775807 ∧ Hid (WokeS a b c now s n sp w') ∧ Hid (n = 0 → ∀ g, g < 3 → now < tt a b c g + 1 → now + s < tt a b c g + 1) ∧ Hid (∃ M', Ms U w' 0 (fsS a b c) p M' (5 + (now + s)) (fun k => k ∈ []) ∧ Sp a b c (now + s) M') := by
  refine (ms_tick h (by omega) (s : Int) s (by omega) hs).mono fun e w' ⟨v, D, T, he, h1, _, hd, h2, h3, hi⟩ => ?_
  obtain ⟨sp, cap, rfl, hl, hc⟩ := hi
  rw [List.length_map] at he hl hc
  refine ⟨sp, D.length, cap, he, hl, Lib.hid fun i hi => ?_, Lib.hid fun hD => sp_none hsp hd h3 hD, Lib.hid ⟨_, h1.late (by omega), hsp.tick hd h2 h3⟩⟩
  obtain ⟨g, hg, e1, e2, e3, e4⟩ := sp_order hsp hd h2 hi
  obtain ⟨b', off, e5, _, _, e6⟩ := hc i hi
  rw [e1] at e6
  refine ⟨g, b', off, e5, e6, hg, e2, e3, fun j hj => ?_⟩
  obtain ⟨g', f1, f2, f3⟩ := e4 (by omega)
  obtain ⟨b2, off2, e7, _, _, e8⟩ := hc j (by omega)
  rw [e5] at e7
  cases e7
  rw [show i - 1 = j by omega] at f2
  rw [f2] at e8
  exact ⟨g', e8, f1, f3⟩
end Md
end Go.Proofs.YtdhkakjiahkjnaaDoor
