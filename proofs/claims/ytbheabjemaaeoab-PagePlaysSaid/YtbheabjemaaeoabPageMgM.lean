/- What the law of pages that merge keeps: which pages are free, how many runs they make. -/
import Derived.Test.YtbheabjemaaeoabPageLeftsM
namespace Go.Proofs.Ytbheabjemaaeoab
open Go.RowKit Go.Lib Fx Ho Gr Go.Sort
set_option linter.unusedVariables false
namespace Pg
variable {W0 w w1 w' W : World} {P B b n c i j k q K a N p t s D : Nat} {v : Value} {L M : List Rn} {H H' : Home} {F G : List Bool} {d : Array Pr2}
/-- Does a run begin at j? -/
def sta (F : List Bool) (j : Nat) : Bool := F.getD j false && !F.getD (j - 1) false
def stn (F : List Bool) : Nat → Nat
  | 0 => 0
  | j + 1 => stn F j + (if sta F (j + 1) then 1 else 0)
theorem stn_le (F : List Bool) : ∀ j, stn F j ≤ j
  | 0 => Nat.le_refl _
  | j + 1 => by
    have := stn_le F j
    show stn F j + _ ≤ _
    split <;> omega
theorem stn_filter (F : List Bool) (h0 : F.getD 0 false = false) : ∀ j, ((List.range (j + 1)).filter (sta F)).length = stn F j
  | 0 => by
    show ([0].filter (sta F)).length = 0
    have : sta F 0 = false := by unfold sta; rw [h0]; rfl
    simp [this]
  | j + 1 => by
    rw [List.range_succ, List.filter_append, List.length_append, stn_filter F h0 j]
    show _ = stn F j + _
    cases h : sta F (j + 1) <;> simp [h]
theorem run_sta (g : IsRun n F a K) : sta F a = true := by
  unfold sta
  rw [g.in_ a (Nat.le_refl _) (by have := g.k1; omega), g.lo]; rfl
theorem sta_run (hl : F.length = n) (h0 : F.getD 0 false = false) (h : sta F j = true) : ∃ m, IsRun n F j m := by
  unfold sta at h
  rw [Bool.and_eq_true] at h
  obtain ⟨h1, h2⟩ := h
  obtain ⟨b, m, g, g1, g2⟩ := in_run hl h0 h1
  have : b = j := by
    rcases Nat.lt_or_ge b j with q | q
    · rw [g.in_ (j - 1) (by omega) (by omega)] at h2; cases h2
    · omega
  subst this
  exact ⟨m, g⟩
theorem sorted_size (hl : F.length = n) (h0 : F.getD 0 false = false) (hn : 1 ≤ n) (h : Sorted n F d) : d.size = stn F (n - 1) := by
  rw [← stn_filter F h0 (n - 1), ← Array.length_toList, ← List.length_map (f := fun x : Pr2 => x.1.toNat)]
  refine List.Perm.length_eq ((List.perm_ext_iff_of_nodup ?_ (List.Nodup.sublist List.filter_sublist List.nodup_range)).2 fun x => ?_)
  · unfold List.Nodup
    rw [List.pairwise_map, List.pairwise_iff_getElem]
    intro i j hi hj hij
    rw [Array.length_toList] at hi hj
    have hu := h.up i j hij hj
    have h1 := (h.at_ hi).1
    rw [Array.getElem_toList, Array.getElem_toList, ← getElem!_pos d i hi, ← getElem!_pos d j hj]
    omega
  · rw [List.mem_map, List.mem_filter, List.mem_range]
    constructor
    · rintro ⟨y, hy, rfl⟩
      obtain ⟨h1, h2, g⟩ := h.sound y hy
      have := g.le
      have := g.k1
      exact ⟨by omega, run_sta g⟩
    · rintro ⟨h1, h2⟩
      obtain ⟨m, g⟩ := sta_run hl h0 h2
      exact ⟨_, h.all x m g, by simp⟩
/-- Pages from i on are free. -/
def Up (n i : Nat) (F : List Bool) : Prop := ∀ x, F.getD x false = decide (i ≤ x ∧ x < n)
theorem up_new (hn : 1 ≤ n) : Up n 1 (newF n) := fun x => newF_get hn x
theorem up_best (h : Up n i F) (h1 : 1 ≤ i) (hi : i < n) : Best n F 1 i (n - i) := by
  have hr : ∀ a K, IsRun n F a K → a = i ∧ K = n - i := fun a K g => by
    have g1 := g.in_ a (Nat.le_refl _) (by have := g.k1; omega)
    have g2 := g.lo
    have g3 := g.hi
    have := g.a1
    have := g.k1
    have := g.le
    rw [h, decide_eq_true_iff] at g1
    rw [h, decide_eq_false_iff_not] at g2 g3
    omega
  refine ⟨⟨h1, by omega, by omega, fun x h2 h3 => ?_, ?_, ?_⟩, by omega, fun b m g _ => ?_⟩
  · rw [h, decide_eq_true_iff]; omega
  · rw [h, decide_eq_false_iff_not]; omega
  · rw [h, decide_eq_false_iff_not]; omega
  · obtain ⟨e1, e2⟩ := hr b m g
    exact .inr ⟨e2.symm, by omega⟩
theorem up_next (h : Up n i F) (hl : F.length = n) (hi : i < n) : Up n (i + 1) (setR F i false 1) := fun x => by
  rw [setR_get F i false x 1 (by omega)]
  by_cases e : i ≤ x ∧ x < i + 1
  · rw [if_pos e]
    exact (decide_eq_false (by omega)).symm
  · rw [if_neg e, h]
    exact decide_eq_decide.2 (by omega)
/-- Which pages came back in i rounds, D apart. -/
def Fr (n D i : Nat) (F : List Bool) : Prop := (∀ x, F.getD x false = true ↔ ∃ j, j < i ∧ j * D % (n - 1) + 1 = x) ∧ cnt F = i
theorem fr_zero (h : Up n n F) : Fr n D 0 F := by
  have h0 : ∀ x, F.getD x false = false := fun x => by rw [h]; exact decide_eq_false (by omega)
  exact ⟨fun x => ⟨fun e => (by rw [h0] at e; cases e), fun ⟨j, hj, _⟩ => absurd hj (Nat.not_lt_zero _)⟩, cnt_off F h0⟩
theorem fr_fresh (h : Fr n D i F) (hc : Nat.gcd D (n - 1) = 1) (hi : i < n - 1) : F.getD (i * D % (n - 1) + 1) false = false := by
  cases e : F.getD (i * D % (n - 1) + 1) false with
  | false => rfl
  | true =>
    obtain ⟨j, hj, e2⟩ := (h.1 _).1 e
    have e3 : j * D % (n - 1) = i * D % (n - 1) := by omega
    have h1 : (i * D - j * D) % (n - 1) = 0 := Nat.sub_mod_eq_zero_of_mod_eq e3.symm
    rw [← Nat.sub_mul] at h1
    have h2 : (n - 1) ∣ (i - j) := Nat.Coprime.dvd_of_dvd_mul_right (by rw [Nat.coprime_comm]; exact hc) (Nat.dvd_of_mod_eq_zero h1)
    have := Nat.le_of_dvd (by omega) h2
    omega
theorem fr_next (h : Fr n D i F) (hl : F.length = n) (hc : Nat.gcd D (n - 1) = 1) (hi : i < n - 1) : Fr n D (i + 1) (setR F (i * D % (n - 1) + 1) true 1) := by
  have hf := fr_fresh h hc hi
  have hm : i * D % (n - 1) < n - 1 := Nat.mod_lt _ (by omega)
  refine ⟨fun x => ?_, ?_⟩
  · rw [setR_get F _ true x 1 (by omega)]
    by_cases e : i * D % (n - 1) + 1 ≤ x ∧ x < i * D % (n - 1) + 1 + 1
    · rw [if_pos e]
      exact ⟨fun _ => ⟨i, by omega, by omega⟩, fun _ => rfl⟩
    · rw [if_neg e, h.1]
      constructor
      · rintro ⟨j, hj, hx⟩
        exact ⟨j, by omega, hx⟩
      · rintro ⟨j, hj, hx⟩
        by_cases q : j = i
        · subst q; omega
        · exact ⟨j, by omega, hx⟩
  · rw [cnt_back 1 (by omega) (fun x h1 h2 => by rw [show x = i * D % (n - 1) + 1 by omega]; exact hf), h.2]
theorem fr_all (h : Fr n D (n - 1) F) (hl : F.length = n) (hn : 2 ≤ n) : F = newF n := by
  have h0 : F.getD 0 false = false := by
    cases e : F.getD 0 false with
    | false => rfl
    | true => obtain ⟨j, _, hj⟩ := (h.1 0).1 e; omega
  have hall : ∀ x, 1 ≤ x → x < n → F.getD x false = true := fun x h1 h2 => by
    cases e : F.getD x false with
    | true => rfl
    | false =>
      have c1 := cnt_back (F := F) (a := x) 1 (by omega) (fun y h1 h2 => by rw [show y = x by omega]; exact e)
      have c2 := cnt_back (F := setR F x true 1) (a := 0) 1 (by rw [setR_len]; omega) (fun y _ h3 => by rw [show y = 0 by omega, setR_get F x true 0 1 (by omega), if_neg (by omega)]; exact h0)
      have c3 := cnt_le (setR (setR F x true 1) 0 true 1)
      rw [setR_len, setR_len, c2, c1, h.2] at c3
      omega
  apply List.ext_getElem
  · rw [newF_len, hl]
  · intro x hx hx2
    have e1 : F.getD x false = (newF n).getD x false := by
      rw [newF_get (by omega)]
      by_cases q : 1 ≤ x
      · rw [hall x q (by omega)]; exact (decide_eq_true (by omega)).symm
      · rw [show x = 0 by omega, h0]; exact (decide_eq_false (by omega)).symm
    rw [List.getD_eq_getElem?_getD, List.getD_eq_getElem?_getD, List.getElem?_eq_getElem hx, List.getElem?_eq_getElem hx2] at e1
    exact e1
/-- What the law of the pages that merge holds between two rounds: its own block tells which are free. -/
structure Mg (W0 W : World) (P B n c D i : Nat) (F : List Bool) : Prop where
  ps : ∃ H, Ps W0 W P n c F H ∧ ¬ H B
  lo : W0.heap.size ≤ B
  own : ∃ G : List Bool, W.heap[B]? = some (.cells (bs G) 4 (0, 0)) ∧ G.length = n + 1 ∧ ∀ x, G.getD x false = F.getD x false
  fr : Fr n D i F
theorem Mg.len (h : Mg W0 W P B n c D i F) : F.length = n := by obtain ⟨H, h1, _⟩ := h.ps; exact h1.len
theorem Mg.zero (h : Mg W0 W P B n c D i F) : F.getD 0 false = false := by obtain ⟨H, h1, _⟩ := h.ps; exact h1.zero
theorem Mg.out (h : Mg W0 W P B n c D i F) : Below W0.heap.size W0 W := by obtain ⟨H, h1, _⟩ := h.ps; exact h1.out
theorem Mg.below (h : Mg W0 W P B n c D i F) (hb : Below W.heap.size W w') : Mg W0 w' P B n c D i F := by
  obtain ⟨H, h1, h2⟩ := h.ps
  obtain ⟨G, g1, g2⟩ := h.own
  exact ⟨⟨H, h1.below hb, h2⟩, h.lo, ⟨G, (hb.block B (block_lt g1)).trans g1, g2⟩, h.fr⟩
theorem Mg.at_ (h : Mg W0 W P B n c D i F) (hx : p ≤ n) : W.cell? ⟨B, p, none⟩ = some (.bool (F.getD p false)) ∧ W.frozen? ⟨B, p, none⟩ = false := by
  obtain ⟨G, g1, g2, g3⟩ := h.own
  exact ⟨by rw [← g3]; exact cell_of g1 (bs_get (by omega)), frozen_of_row _ _ _ _ _ g1⟩
/-- One more comes back: what Free answers, and what stands behind the store. -/
theorem Mg.free (h : Mg W0 W P B n c D i F) (hc : c ≤ 900) (hg : Nat.gcd D (n - 1) = 1) (hi : i < n - 1) (hat : i * D % (n - 1) = a) : Calls Try.prog 9 #[.pointer (some ⟨P, 0, none⟩), .int .i64 ((a : Int) + 1), .int .i64 1] W fun e w' => e = .returned (.int .i64 0) ∧ (∃ y, w'.cell? ⟨B, a + 1, none⟩ = some y) ∧ w'.frozen? ⟨B, a + 1, none⟩ = false ∧ Hid (∃ F', Mg W0 (w'.setCell ⟨B, a + 1, none⟩ (.bool true)) P B n (c + 4) D (i + 1) F') := by
  subst hat
  obtain ⟨H, p1, p2⟩ := h.ps
  obtain ⟨G, g1, g2, g3⟩ := h.own
  have hl := p1.len
  have hm : i * D % (n - 1) < n - 1 := Nat.mod_lt _ (by omega)
  have hf := fr_fresh h.fr hg hi
  have e1 : ((i * D % (n - 1) : Nat) : Int) + 1 = ((i * D % (n - 1) + 1 : Nat) : Int) := by omega
  rw [e1, show (1 : Int) = ((1 : Nat) : Int) from rfl]
  refine (free_yes p1 (by omega) (p := i * D % (n - 1) + 1) (q := 1) (by omega) (by omega) (by omega) (fun x h1 h2 => by rw [show x = i * D % (n - 1) + 1 by omega]; exact hf)).mono fun e w' ⟨he, H', hw, hp⟩ => ?_
  have hblk : w'.heap[B]? = _ := (hw.block B (block_lt g1) p2).trans g1
  have hp2 : ¬ H' B := fun hh => (hw.home B hh).elim p2 (fun e => by have := block_lt g1; omega)
  refine ⟨he, ⟨_, cell_of hblk (bs_get (by omega))⟩, frozen_of_row _ _ _ _ _ hblk, Lib.hid ⟨_, ⟨H', hp.wrote (wr1 w' B _ _) (fun k hk e => hp2 (by rw [← show k = B from e]; exact hk)) (fun k e => by rw [show k = B from e]; exact h.lo), hp2⟩, h.lo, ⟨G.set (i * D % (n - 1) + 1) true, ?_, by rw [List.length_set]; exact g2, fun x => ?_⟩, fr_next h.fr hl hg hi⟩⟩
  · rw [heap_setCell_same _ B _ _ _ _ hblk, bs_set]
  · show _ = (F.set (i * D % (n - 1) + 1 + 0) true).getD x false
    have := g3 x
    simp only [List.getD_eq_getElem?_getD, List.getElem?_set, Nat.add_zero] at this ⊢
    by_cases q : i * D % (n - 1) + 1 = x
    · rw [if_pos q, if_pos q, if_pos (by omega), if_pos (by omega)]
    · rw [if_neg q, if_neg q]; exact this
theorem stn_at (F : List Bool) (hj : 1 ≤ j) : stn F j = stn F (j - 1) + (if F.getD j false && !F.getD (j - 1) false then 1 else 0) := by
  obtain ⟨k, rfl⟩ : ∃ k, j = k + 1 := ⟨j - 1, by omega⟩
  rfl
theorem gcd_own (hn : 2 ≤ n) : Nat.gcd n (n - 1) = 1 := by
  obtain ⟨k, rfl⟩ : ∃ k, n = k + 1 := ⟨n - 1, by omega⟩
  rw [show k + 1 - 1 = k by omega, Nat.add_comm]
  simp
theorem mod_next (D q m : Nat) : (q * D % m + D) % m = (q + 1) * D % m := by
  rw [Nat.mod_add_mod, Nat.add_mul, Nat.one_mul]
theorem mg_start (hp : Ps W0 W P n c F H) (hu : Up n n F) {cap : Nat} (ho : w1.ownsRow W.heap.size 4 1 (.slice (some ⟨W.heap.size, 0, none⟩) ((n + 1 : Nat) : Int).toNat ((n + 1 : Nat) : Int).toNat) (n + 1) (madeCells (Value.bool false).cells ((n + 1) * 1)).toList) (hg : W.grownBy w1 none) : Mg W0 w1 P W.heap.size n c D 0 F := by
  have hb := Below.grown (Below.refl W.heap.size W) hg (Nat.le_refl _) (fun k hk => by cases hk)
  refine ⟨⟨H, hp.below hb, fun hh => by have := hp.lt hh; omega⟩, hp.out.size, ⟨List.replicate (n + 1) false, full_bs (lo := W.heap.size) (cap := 0) ho, List.length_replicate, fun x => ?_⟩, fr_zero hu⟩
  rw [hu, List.getD_eq_getElem?_getD, List.getElem?_replicate, decide_eq_false (by omega)]
  split <;> rfl
theorem Mg.runs (h : Mg W0 W P B n c D i F) (hn : 1 ≤ n) : Calls Try.prog 10 #[.pointer (some ⟨P, 0, none⟩)] W fun e w' => (∃ b cap : Nat, e = .returned (.slice (some ⟨b, 0, none⟩) (stn F (n - 1)) cap)) ∧ Hid (Mg W0 w' P B n c D i F) ∧ Calls Try.prog 11 #[.pointer (some ⟨P, 0, none⟩)] w' (Still (.int .i64 i) w') := by
  obtain ⟨H, p1, p2⟩ := h.ps
  refine (runs_any p1).mono fun e w' ⟨b, cap, d, he, q1, q2, q3, q4, q5, q6, q7, q8⟩ => ⟨⟨b, cap, ?_⟩, Lib.hid (h.below q7), ?_⟩
  · rw [← sorted_size p1.len p1.zero hn q6]; exact he
  · have := left_any q8
    rwa [h.fr.2] at this
theorem Mg.whole (h : Mg W0 W P B n c D (n - 1) F) (hn : 2 ≤ n) : Calls Try.prog 10 #[.pointer (some ⟨P, 0, none⟩)] W fun e w' => ∃ b cap : Nat, e = .returned (.slice (some ⟨b, 0, none⟩) 1 cap) ∧ w'.cell? ⟨b, 0, none⟩ = some (.int .i64 1) ∧ w'.cell? ⟨b, 1, none⟩ = some (.int .i64 ((n : Int) - 1)) ∧ 1 ≤ cap ∧ Hid (Below W0.heap.size W0 w') := by
  obtain ⟨H, p1, p2⟩ := h.ps
  obtain rfl := fr_all h.fr p1.len hn
  refine (runs_any p1).mono fun e w' ⟨b, cap, d, he, q1, q2, q3, q4, q5, q6, q7, q8⟩ => ?_
  have hd := sorted_new hn q6
  subst hd
  obtain ⟨c0, c1⟩ := holds_at q5 (j := 0) (by simp)
  refine ⟨b, cap, he, c0, ?_, q3, Lib.hid q8.out⟩
  rw [show (n : Int) - 1 = ((n - 1 : Nat) : Int) by omega]
  exact c1
set_option maxRecDepth 100000 in
set_option maxHeartbeats 1000000 in
theorem gcd_any (x y : Nat) (hx : x ≤ 1000) (hy : y ≤ 1000) (w : World) : Calls Try.prog 8 #[.int .i64 x, .int .i64 y] w (AnsB (.int .i64 (Nat.gcd x y)) w) := by
  go_enter Try.func8, Try.ntmps8
  go_wp2_with fail
  go_loopw [0, 1] (fun u2 u3 wr => ∃ a b : Nat, u2 = .int .i64 a ∧ u3 = .int .i64 b ∧ a ≤ 1000 ∧ b ≤ 1000 ∧ Hid (Nat.gcd a b = Nat.gcd x y) ∧ Hid (Below w.heap.size w wr)) (fun _ y _ => (RowKit.intOf y).toNat)
  case atStart => exact ⟨x, y, rfl, rfl, hx, hy, Lib.hid rfl, Lib.hid (Below.refl _ _)⟩
  case round =>
    obtain ⟨a, b, rfl, rfl, ha, hb, hg, hB⟩ := hrel
    by_cases h0 : b = 0
    · have e0 : ((b : Int) == 0) = true := by rw [h0]; rfl
      have e1 : (b : Int) = 0 := by omega
      replace h0 := Lib.hid h0
      go_wp2_with fail
      go_ret
      refine ⟨?_, hB.out⟩
      have := hg.out
      rw [h0.out, Nat.gcd_zero_right] at this
      rw [this]
      rfl
    · have e0 : ((b : Int) == 0) = false := by simp; omega
      have e1 : ¬ (b : Int) = 0 := by omega
      have z0 : (0 : Int) ≤ (a : Int) := by omega
      have z1 : (0 : Int) ≤ (b : Int) := by omega
      have z2 : (a : Int).tmod (b : Int) = ((a % b : Nat) : Int) := (Int.ofNat_tmod a b).symm
      have z3 : (a : Int) % (b : Int) = ((a % b : Nat) : Int) := by omega
      have hlt := Nat.mod_lt a (show b > 0 by omega)
      have hgn : Hid (Nat.gcd b (a % b) = Nat.gcd x y) := Lib.hid (by rw [← hg.out, Nat.gcd_comm a b, Nat.gcd_rec b a, Nat.gcd_comm])
      have hB2 : Hid (∀ V, Below wr.heap.size wr V → Below w.heap.size w V) := Lib.hid fun V hV => hB.out.trans (hV.mono hB.out.size)
      clear hg hB
      generalize a % b = r at *
      go_wp2_with fail
      go_quiet (fail)
      go_wp2_with fail
      go_roundw
      case rel => exact ⟨b, r, rfl, rfl, hb, by omega, hgn, Lib.hid (hB2.out _ (by repeat (first | assumption | exact Below.refl _ _ | refine below_drewN ?_ _ | refine below_alloc ?_ _ | refine below_then ?_ (by assumption))))⟩
      case measure => simp [RowKit.intOf]; omega
end Pg
end Go.Proofs.Ytbheabjemaaeoab
