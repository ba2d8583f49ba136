/- A pool beside something else that a statement made; what is in it, number by number. -/
import Derived.Test.YtclldajbibhcbaaPoolLaw
import Derived.Deep.OwnRows
namespace Go.Proofs.Ytclldajbibhcbaa
open Go.RowKit Go.Lib Fx Ho Qu Bu Gr
set_option linter.unusedVariables false
namespace Po
variable {w0 w w' W W' : World} {p B ps n i j z : Nat} {s : St} {K : Home} {x : Int}
/-- A pool that was made since w0, all of it but block z. -/
structure Pk (w0 W : World) (z p B ps : Nat) (s : St) : Prop where
  i : Is (fun k => w0.heap.size ≤ k ∧ k ≠ z) W p B ps s
  b : Below w0.heap.size w0 W
/-- Block z is as it was. -/
def Kz (z : Nat) (W W' : World) : Prop := ∀ o, W.heap[z]? = some o → W'.heap[z]? = some o
theorem Ps.avoid (h : Ps w0 W p B ps s) (o : Obj) : Pk w0 (W.alloc o) W.heap.size p B ps s := by
  obtain ⟨a, fv, ev, ad, M, G, h1⟩ := h.i
  have hb := below_alloc (Below.refl _ W) o
  have hs : (W.alloc o).heap.size = W.heap.size + 1 := by show (W.heap.push o).size = _; rw [Array.size_push]
  exact ⟨⟨a, fv, ev, ad, M, G, h1.m.below hb, h1.b.wrote (H := fun _ => False) (Wrote.of_below hb) (fun _ _ h => h), h1.one, h1.two, h1.flg, h1.off, fun k hk => ⟨h1.km k hk, by have := h1.m.lt k hk; omega⟩, fun k hk => ⟨h1.kg k hk, by have := h1.b.lt k hk; omega⟩, fun k hk => ⟨by have := h.b.size; omega, by omega⟩⟩, h.b.trans (hb.mono h.b.size)⟩
theorem did_pk {r : Value} {e : Ending} (d : Did r (fun k => w0.heap.size ≤ k ∧ k ≠ z) W p B ps s e W') (h : Below w0.heap.size w0 W) : e = .returned r ∧ Pk w0 W' z p B ps s ∧ Kz z W W' :=
  ⟨d.1, ⟨d.2.1, d.2.2.below (fun k hk => hk.1) h⟩, fun o ho => (d.2.2.block z (block_lt ho) (fun hk => hk.2 rfl)).trans ho⟩
theorem Pk.draws (h : Pk w0 W z p B ps s) (n : Nat) : Pk w0 (W.drewN n) z p B ps s := ⟨h.i.below (below_drewN (Below.refl _ _) n), below_drewN h.b n⟩
theorem pk_put (h : Pk w0 W z p B ps s) (hx : x = (i : Int)) (hi : i < ps) (hps : ps ≤ 64) (hF : s.F.length ≤ 90000) (hE : s.e ≤ 90000) {g : Int} (hg : g ≠ 0) : Calls Try.prog 56 #[.pointer (some ⟨p, 0, none⟩), .int .i64 x, .int .i64 g] W fun e W' => e = .returned (.int .i64 0) ∧ Pk w0 W' z p B ps (sPut s i g) ∧ Kz z W W' := by
  subst hx; exact (put_any h.i hi hps hF hE hg).mono fun _ _ d => did_pk d h.b
theorem pk_get (h : Pk w0 W z p B ps s) (hx : x = (i : Int)) (hi : i < ps) (hps : ps ≤ 64) (hF : s.F.length ≤ 90000) (hE : s.e ≤ 90000) {v : Int} {b : Bool} (ha : sAns s i = (v, b)) : Calls Try.prog 59 #[.pointer (some ⟨p, 0, none⟩), .int .i64 x] W fun e W' => e = .returned (.tuple #[.int .i64 v, .bool b]) ∧ Pk w0 W' z p B ps (sGet s i) ∧ Kz z W W' := by
  subst hx
  refine (get_any h.i hi hps hF hE).mono fun _ _ d => ?_
  rw [ha] at d
  exact did_pk d h.b
theorem pk_give (h : Pk w0 W z p B ps s) (hx : x = (i : Int)) (hi : i < ps) (hps : ps ≤ 64) (hF : s.F.length ≤ 90000) (hE : s.e ≤ 90000) : Calls Try.prog 65 #[.pointer (some ⟨p, 0, none⟩), .int .i64 x] W fun e W' => e = .returned (.bool (sGave s i)) ∧ Pk w0 W' z p B ps (sGive s i) ∧ Kz z W W' := by
  subst hx; exact (give_any h.i hi hps hF hE).mono fun _ _ d => did_pk d h.b
theorem pk_flush (h : Pk w0 W z p B ps s) (hx : x = (i : Int)) (hi : i < ps) (hps : ps ≤ 64) (hF : s.F.length ≤ 90000) (hE : s.e ≤ 90000) : Calls Try.prog 61 #[.pointer (some ⟨p, 0, none⟩), .int .i64 x] W fun e W' => e = .returned (.tuple #[]) ∧ Pk w0 W' z p B ps (sFlush s i) ∧ Kz z W W' := by
  subst hx; exact (flush_any h.i hi hps hF hE).mono fun _ _ d => did_pk d h.b
theorem pk_local (h : Pk w0 W z p B ps s) (hx : x = (i : Int)) (hi : i < ps) (hps : ps ≤ 64) {y : Int} (hy : y = ((s.o i).length + (s.t i).length : Nat)) : Calls Try.prog 60 #[.pointer (some ⟨p, 0, none⟩), .int .i64 x] W fun e W' => e = .returned (.int .i64 y) ∧ Pk w0 W' z p B ps s ∧ Kz z W W' := by
  subst hx hy; exact (local_any h.i hi hps).mono fun _ _ ⟨he, n, hw⟩ => ⟨he, by rw [hw]; exact h.draws n, by rw [hw]; exact fun o ho => ho⟩
theorem pk_len (h : Pk w0 W z p B ps s) (hps : ps ≤ 64) (hF : s.F.length ≤ 90000) {y : Int} (hy : y = (tot List.length ps s : Nat)) : Calls Try.prog 64 #[.pointer (some ⟨p, 0, none⟩)] W fun e W' => e = .returned (.int .i64 y) ∧ Pk w0 W' z p B ps s ∧ Kz z W W' := by
  subst hy; exact (len_any h.i hps hF).mono fun _ _ ⟨he, n, hw⟩ => ⟨he, by rw [hw]; exact h.draws n, by rw [hw]; exact fun o ho => ho⟩
/-- A store into block z leaves the pool as it is. -/
theorem Pk.scr (h : Pk w0 W z p B ps s) {U : World} {v : Value} {k : Nat} (hz : w0.heap.size ≤ z) (hh : U = W.setCell ⟨z, k, none⟩ v) : Pk w0 U z p B ps s := by
  subst hh
  have hw : Wrote (fun k => k = z) W (fun k => k = z) (W.setCell ⟨z, k, none⟩ v) := wrote_setCell (a := ⟨z, k, none⟩) (u := v) rfl rfl rfl rfl rfl
  exact ⟨h.i.apart hw (fun k h1 h2 => h1.2 h2), hw.below (fun k hk => by rw [show k = z from hk]; exact hz) h.b⟩
theorem full_le (h : Good ps s) : s.F.length ≤ tot List.length ps s := by
  have : ∀ F : List (List Int), (∀ L, L ∈ F → L ≠ []) → F.length ≤ (F.map List.length).sum := by
    intro F
    induction F with
    | nil => intro _; simp
    | cons L T ih =>
      intro hF
      have h1 := ih (fun L hL => hF L (List.mem_cons_of_mem _ hL))
      have h2 : 0 < L.length := List.length_pos_iff.2 (hF L (List.mem_cons_self ..))
      simp only [List.map_cons, List.sum_cons, List.length_cons]; omega
  have := this s.F h.f
  unfold tot; omega
theorem put_e (s : St) (i : Nat) (v : Int) : (sPut s i v).e ≤ s.e := by
  have h1 : (sPut1 s i).e = s.e := by unfold sPut1; split <;> rfl
  have h2 : (sPut2 (sPut1 s i) i).e ≤ s.e := by
    unfold sPut2; split
    · show (sPut1 s i).e - 1 ≤ s.e; omega
    · omega
  exact h2
theorem give_e (s : St) (i : Nat) : (sGive s i).e ≤ s.e := by
  unfold sGive; split
  · show s.e - 1 ≤ s.e; omega
  · split
    · exact Nat.le_refl _
    · exact Nat.le_refl _
/-- What there is, number by number: those of 1 to n that are not gone, once each. -/
structure Has (ps n : Nat) (gone : Nat → Bool) (s : St) : Prop where
  good : Good ps s
  one : ∀ v : Int, tot (List.count v) ps s = if 1 ≤ v ∧ v ≤ n ∧ gone v.toNat = false then 1 else 0
theorem has0 : Has ps 0 (fun _ => false) st0 := ⟨good0, fun v => by rw [tot0 (meas_count v), if_neg (by omega)]⟩
theorem has_put (h : Has ps n (fun _ => false) s) (hi : i < ps) : Has ps (n + 1) (fun _ => false) (sPut s i ((n : Int) + 1)) := ⟨good_put h.good _, fun v => by
  rw [tot_put (meas_count v) hi, h.one v]
  by_cases e : v = (n : Int) + 1
  · subst e
    rw [if_neg (by omega), if_pos ⟨by omega, by omega, rfl⟩]; simp
  · have : List.count v [(n : Int) + 1] = 0 := by simp [List.count_cons]; exact fun h => e h.symm
    rw [this]
    by_cases h1 : 1 ≤ v ∧ v ≤ n
    · rw [if_pos ⟨h1.1, h1.2, rfl⟩, if_pos ⟨by omega, by omega, rfl⟩]
    · rw [if_neg (fun h => h1 ⟨h.1, h.2.1⟩), if_neg (fun h => by omega)]⟩
theorem has_give {g : Nat → Bool} (h : Has ps n g s) (hi : i < ps) : Has ps n g (sGive s i) := ⟨good_give h.good, fun v => by rw [tot_give (meas_count v) hi]; exact h.one v⟩
theorem has_flush {g : Nat → Bool} (h : Has ps n g s) (hi : i < ps) : Has ps n g (sFlush s i) := ⟨good_flush h.good, fun v => by rw [tot_flush (meas_count v) hi]; exact h.one v⟩
/-- What Get gets was there, and is gone then. -/
theorem has_get {g : Nat → Bool} {v : Int} (h : Has ps n g s) (hi : i < ps) (ha : sAns s i = (v, true)) : ∃ m : Nat, v = m ∧ 1 ≤ m ∧ m ≤ n ∧ g m = false ∧ Has ps n (up g m true) (sGet s i) := by
  have h0 := tot_get (s := s) (meas_count v) hi
  rw [ha, h.one v] at h0
  simp only [if_true, List.count_cons_self, List.count_nil] at h0
  have hin : 1 ≤ v ∧ v ≤ n ∧ g v.toNat = false := by
    by_cases hc : 1 ≤ v ∧ v ≤ n ∧ g v.toNat = false
    · exact hc
    · rw [if_neg hc] at h0; omega
  refine ⟨v.toNat, by omega, by omega, by omega, hin.2.2, good_get h.good, fun u => ?_⟩
  have h1 := tot_get (s := s) (meas_count u) hi
  rw [ha, h.one u] at h1
  simp only [if_true] at h1
  by_cases e : u = v
  · subst e
    rw [if_pos hin] at h1
    simp only [List.count_cons_self, List.count_nil] at h1
    rw [if_neg (fun hc => by rw [up_same] at hc; exact absurd hc.2.2 (by decide))]; omega
  · have h2 : List.count u [v] = 0 := by simp [List.count_cons]; exact fun h => e h.symm
    rw [h2] at h1
    rw [← Nat.add_zero (tot (List.count u) ps (sGet s i)), ← h1]
    by_cases hc : 1 ≤ u ∧ u ≤ n ∧ g u.toNat = false
    · rw [if_pos hc, if_pos ⟨hc.1, hc.2.1, by rw [up_ne _ _ (by omega)]; exact hc.2.2⟩]
    · rw [if_neg hc, if_neg (fun h3 => hc ⟨h3.1, h3.2.1, by have h4 := h3.2.2; rwa [up_ne _ _ (by omega)] at h4⟩)]
theorem get_no (hi : i < ps) (h0 : tot List.length ps s = 0) : (sAns s i).2 = false ∧ tot List.length ps (sGet s i) = 0 := by
  have h := tot_get (s := s) meas_len hi
  rw [h0] at h
  by_cases hb : (sAns s i).2 = true
  · rw [if_pos hb] at h; simp at h
  · exact ⟨by simpa using hb, by omega⟩
theorem bools_at {w : World} {z k : Nat} {g : Nat → Bool} {A : Array Value} (h : w.heap[z]? = some (.cells A 4 (0, 0))) (hA : ∀ j, j < k → A[j]? = some (.bool (g j))) {m : Nat} (hm : m < k) : w.cell? ⟨z, m, none⟩ = some (.bool (g m)) ∧ w.frozen? ⟨z, m, none⟩ = false ∧ (w.setCell ⟨z, m, none⟩ (.bool true)).heap[z]? = some (.cells (A.setIfInBounds m (.bool true)) 4 (0, 0)) ∧ (∀ j, j < k → (A.setIfInBounds m (.bool true))[j]? = some (.bool (up g m true j))) := by
  refine ⟨cell_of h (hA m hm), frozen_of_row w z m _ _ h, heap_setCell_same _ z m _ _ _ h, fun j hj => ?_⟩
  by_cases e : j = m
  · subst e; rw [up_same]; exact get_same (hA j hj)
  · rw [up_ne _ _ e]; exact get_set (hA j hj) (fun e2 => e e2.symm)
theorem made_bools (n : Nat) : ∀ j, j < n → (madeCells #[Value.bool false] n)[j]? = some (.bool false) := fun j hj => by
  unfold madeCells
  simp [hj, Nat.mod_one]
end Po
end Go.Proofs.Ytclldajbibhcbaa
