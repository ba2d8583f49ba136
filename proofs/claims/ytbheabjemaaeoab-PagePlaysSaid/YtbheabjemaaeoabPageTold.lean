/- What the calls of a law answer where it is known which pages are free; the law's own told. -/
import Derived.Test.YtbheabjemaaeoabPageCnt
import Derived.Test.YtbheabjemaaeoabPageNew
namespace Go.Proofs.Ytbheabjemaaeoab
open Go.RowKit Go.Lib Fx Ho Gr Go.Sort
set_option linter.unusedVariables false
namespace Pg
variable {W0 w w1 w' W : World} {P b n c i j k q K a N p : Nat} {v : Value} {L M : List Rn} {H H' : Home} {F : List Bool} {d : Array Pr2}
theorem Best.one {a' K' : Nat} (h : Best n F k a K) (g : Best n F k a' K') : a = a' := by
  have h1 := h.2.2 _ _ g.1 g.2.1
  have h2 := g.2.2 _ _ h.1 h.2.1
  omega
theorem alloc_yes (h : Ps W0 W P n c F H) (hc : c ≤ 990) (q1 : 1 ≤ q) (hb : Best n F q a K) : Calls Try.prog 7 #[.pointer (some ⟨P, 0, none⟩), .int .i64 q] W (Step (.tuple #[.int .i64 a, .int .i64 0]) W0 W P n (c + 4) (setR F a false q) H) := by
  refine (alloc_any h hc q).mono fun e W' hh => ?_
  rcases hh with ⟨h1, _⟩ | ⟨_, h1, _⟩ | ⟨a', K', q', e1, _, hb', hs⟩
  · omega
  · have := h1 _ _ hb.1; have := hb.2.1; omega
  · obtain rfl : q = q' := by omega
    obtain rfl := hb.one hb'
    exact hs
theorem alloc_no (h : Ps W0 W P n c F H) (hc : c ≤ 990) {k : Int} (q1 : 1 ≤ k) (hb : ∀ a K, IsRun n F a K → (K : Int) < k) : Calls Try.prog 7 #[.pointer (some ⟨P, 0, none⟩), .int .i64 k] W (Step (.tuple #[.int .i64 0, .int .i64 3]) W0 W P n c F H) := by
  refine (alloc_any h hc k).mono fun e W' hh => ?_
  rcases hh with ⟨h1, _⟩ | ⟨_, h1, hs⟩ | ⟨a', K', q', e1, _, hb', hs⟩
  · omega
  · exact hs
  · have := hb _ _ hb'.1; have := hb'.2.1; omega
theorem free_yes (h : Ps W0 W P n c F H) (hc : c ≤ 990) (p1 : 1 ≤ p) (q1 : 1 ≤ q) (hpq : p + q ≤ n) (hf : ∀ i, p ≤ i → i < p + q → F.getD i false = false) : Calls Try.prog 9 #[.pointer (some ⟨P, 0, none⟩), .int .i64 p, .int .i64 q] W (Step (.int .i64 0) W0 W P n (c + 4) (setR F p true q) H) := by
  have hn := h.nb
  refine (free_any h hc p q (by omega)).mono fun e W' hh => ?_
  rcases hh with ⟨h1, _⟩ | ⟨p', q', e1, e2, _, _, _, hh⟩
  · omega
  · obtain rfl : p = p' := by omega
    obtain rfl : q = q' := by omega
    rcases hh with ⟨⟨i, i1, i2, i3⟩, _⟩ | ⟨_, hs⟩
    · rw [hf i i1 i2] at i3; cases i3
    · exact hs
theorem free_no (h : Ps W0 W P n c F H) (hc : c ≤ 990) (p1 : 1 ≤ p) (q1 : 1 ≤ q) (hpq : p + q ≤ n) (hf : Any F p q) : Calls Try.prog 9 #[.pointer (some ⟨P, 0, none⟩), .int .i64 p, .int .i64 q] W (Step (.int .i64 5) W0 W P n c F H) := by
  have hn := h.nb
  refine (free_any h hc p q (by omega)).mono fun e W' hh => ?_
  rcases hh with ⟨h1, _⟩ | ⟨p', q', e1, e2, _, _, _, hh⟩
  · omega
  · obtain rfl : p = p' := by omega
    obtain rfl : q = q' := by omega
    rcases hh with ⟨_, hs⟩ | ⟨h2, _⟩
    · exact hs
    · obtain ⟨i, i1, i2, i3⟩ := hf
      rw [h2 i i1 i2] at i3; cases i3
theorem step_ps {t : Value} {e : Ending} (h : Step t W0 W P n c F H e w') : e = .returned t ∧ ∃ H', Ps W0 w' P n c F H' := by
  obtain ⟨h1, H', _, h2⟩ := h
  exact ⟨h1, H', h2⟩
theorem new_best (hn : 2 ≤ n) (hk : k ≤ n - 1) : Best n (newF n) k 1 (n - 1) := ⟨(newF_run (by omega)).2 ⟨hn, rfl, rfl⟩, hk, fun b m g _ => by have := (newF_run (by omega)).1 g; omega⟩
theorem sorted_new (hn : 2 ≤ n) (h : Sorted n (newF n) d) : d = #[(1, ((n - 1 : Nat) : Int))] := by
  have hm := h.all 1 (n - 1) ((newF_run (by omega)).2 ⟨hn, rfl, rfl⟩)
  have hx : ∀ i, i < d.size → d[i]! = (1, ((n - 1 : Nat) : Int)) := fun i hi => by
    have hi2 : d[i]! ∈ d.toList := by rw [getElem!_pos d i hi]; exact Array.getElem_mem_toList hi
    obtain ⟨h1, h2, g⟩ := h.sound _ hi2
    have := (newF_run (by omega)).1 g
    exact Prod.ext (by show d[i]!.1 = 1; omega) (by show d[i]!.2 = ((n - 1 : Nat) : Int); omega)
  have hs : 0 < d.size := by
    rcases Nat.eq_zero_or_pos d.size with e | e
    · rw [Array.size_eq_zero_iff] at e; rw [e] at hm; cases hm
    · exact e
  have h1 : d.size = 1 := by
    rcases Nat.lt_or_ge 1 d.size with e | e
    · have := h.up 0 1 (by omega) e
      rw [hx 0 (by omega), hx 1 e] at this; omega
    · omega
  have h0 := hx 0 hs
  apply Array.ext
  · rw [h1]; rfl
  · intro i hi hi2
    obtain rfl : i = 0 := by omega
    rw [getElem!_pos d 0 hi] at h0
    rw [h0]; rfl
theorem holds_at (h : HoldsK encR 2 w b 0 d) (hj : j < d.size) : w.cell? ⟨b, j * 2, none⟩ = some (.int .i64 d[j]!.1) ∧ w.cell? ⟨b, j * 2 + 1, none⟩ = some (.int .i64 d[j]!.2) := by
  have h0 := (h (j * 2) (by rw [size_flatK]; omega)).1
  have h1 := (h (j * 2 + 1) (by rw [size_flatK]; omega)).1
  rw [get_flatK encR 2 _ _ (by omega), Nat.zero_add] at h0 h1
  rw [show j * 2 / 2 = j by omega, show j * 2 % 2 = 0 by omega] at h0
  rw [show (j * 2 + 1) / 2 = j by omega, show (j * 2 + 1) % 2 = 1 by omega] at h1
  exact ⟨h0, h1⟩
theorem told_any (w : World) : Calls Try.prog 12 #[] w (AnsB (.bool true) w) := by
  have cn := new_any 6 w
  rw [show many 6 = 6 from rfl] at cn
  have s1 : Hid (∀ W P H, Ps w W P 6 4 (newF 6) H → Calls Try.prog 7 #[.pointer (some ⟨P, 0, none⟩), .int .i64 2] W fun e W' => e = .returned (.tuple #[.int .i64 1, .int .i64 0]) ∧ Hid (∃ H, Ps w W' P 6 8 (setR (newF 6) 1 false 2) H)) := Lib.hid fun W P H h => (alloc_yes (q := 2) h (by omega) (by omega) (new_best (by omega) (by omega))).mono fun e W' hh => by
    obtain ⟨h1, h2⟩ := step_ps hh
    exact ⟨h1, Lib.hid h2⟩
  have s2 : Hid (∀ W P H, Ps w W P 6 8 (setR (newF 6) 1 false 2) H → Calls Try.prog 7 #[.pointer (some ⟨P, 0, none⟩), .int .i64 9] W fun e W' => e = .returned (.tuple #[.int .i64 0, .int .i64 3]) ∧ Hid (∃ H, Ps w W' P 6 8 (setR (newF 6) 1 false 2) H)) := Lib.hid fun W P H h => (alloc_no (k := 9) h (by omega) (by omega) (fun a K g => by have := g.le; omega)).mono fun e W' hh => by
    obtain ⟨h1, h2⟩ := step_ps hh
    exact ⟨h1, Lib.hid h2⟩
  have s3 : Hid (∀ W P H, Ps w W P 6 8 (setR (newF 6) 1 false 2) H → Calls Try.prog 9 #[.pointer (some ⟨P, 0, none⟩), .int .i64 1, .int .i64 2] W fun e W' => e = .returned (.int .i64 0) ∧ Hid (∃ H, Ps w W' P 6 12 (newF 6) H)) := Lib.hid fun W P H h => (free_yes (p := 1) (q := 2) h (by omega) (by omega) (by omega) (by omega) (fun i h1 h2 => (show i = 1 ∨ i = 2 by omega).elim (fun e => by subst e; rfl) (fun e => by subst e; rfl))).mono fun e W' hh => by
    obtain ⟨h1, h2⟩ := step_ps hh
    exact ⟨h1, Lib.hid h2⟩
  have s4 : Hid (∀ W P H, Ps w W P 6 12 (newF 6) H → Calls Try.prog 9 #[.pointer (some ⟨P, 0, none⟩), .int .i64 1, .int .i64 1] W fun e W' => e = .returned (.int .i64 5) ∧ Hid (∃ H, Ps w W' P 6 12 (newF 6) H)) := Lib.hid fun W P H h => (free_no (p := 1) (q := 1) h (by omega) (by omega) (by omega) (by omega) ⟨1, by omega, by omega, rfl⟩).mono fun e W' hh => by
    obtain ⟨h1, h2⟩ := step_ps hh
    exact ⟨h1, Lib.hid h2⟩
  have s5 : Hid (∀ W P H, Ps w W P 6 12 (newF 6) H → Calls Try.prog 10 #[.pointer (some ⟨P, 0, none⟩)] W fun e W' => ∃ b cap, e = .returned (.slice (some ⟨b, 0, none⟩) 1 cap) ∧ W'.cell? ⟨b, 0, none⟩ = some (.int .i64 1) ∧ W'.cell? ⟨b, 1, none⟩ = some (.int .i64 5) ∧ 1 ≤ cap ∧ Hid (Below w.heap.size w W') ∧ Calls Try.prog 11 #[.pointer (some ⟨P, 0, none⟩)] W' (Still (.int .i64 5) W')) := Lib.hid fun W P H h => (runs_any h).mono fun e W' ⟨b, cap, d, he, q1, q2, q3, q4, q5, q6, q7, q8⟩ => by
    have hd := sorted_new (by omega) q6
    subst hd
    obtain ⟨c0, c1⟩ := holds_at q5 (j := 0) (by simp)
    exact ⟨b, cap, he, c0, c1, q3, Lib.hid q8.out, left_any q8⟩
  go_enter Try.func12, Try.ntmps12
  go_wp2_with fail
  with_reducible refine Calls.mono (cn) ?_
  rintro e w1 ⟨P, rfl, h1⟩
  obtain ⟨H1, h1⟩ := h1.out
  have c1 := s1.out _ _ _ h1
  clear cn s1 h1
  go_wp2_with fail
  with_reducible refine Calls.mono (c1) ?_
  rintro e w2 ⟨rfl, h1⟩
  obtain ⟨H2, h1⟩ := h1.out
  have c2 := s2.out _ _ _ h1
  clear c1 s2 h1
  go_wp2_with fail
  with_reducible refine Calls.mono (c2) ?_
  rintro e w3 ⟨rfl, h1⟩
  obtain ⟨H3, h1⟩ := h1.out
  have c3 := s3.out _ _ _ h1
  clear c2 s3 h1
  go_wp2_with fail
  with_reducible refine Calls.mono (c3) ?_
  rintro e w4 ⟨rfl, h1⟩
  obtain ⟨H4, h1⟩ := h1.out
  have c4 := s4.out _ _ _ h1
  clear c3 s4 h1
  go_wp2_with fail
  with_reducible refine Calls.mono (c4) ?_
  rintro e w5 ⟨rfl, h1⟩
  obtain ⟨H5, h1⟩ := h1.out
  have c5 := s5.out _ _ _ h1
  clear c4 s5 h1
  go_wp2_with fail
  with_reducible refine Calls.mono (c5) ?_
  rintro e w6 ⟨b, cap, rfl, d0, d1, hcap, hB, cl⟩
  clear c5
  go_wp2_with fail
  with_reducible refine Calls.mono (cl) ?_
  rintro e w7 ⟨rfl, rfl⟩
  clear cl
  go_wp2_with fail
  go_ret
  exact ⟨rfl, hB.out⟩
end Pg
end Go.Proofs.Ytbheabjemaaeoab
