/- What the calls of package credit answer. -/
import Derived.Test.YtmngaedcckjfoaaCredit
import Derived.StillTailTactics
import Derived.Deep.RegionHeld3
import Derived.Deep.RegionWith
import Derived.RegionTactic
import Derived.BigQuiet
namespace Go.Proofs.Ytmngaedcckjfoaa
open Go.RowKit Go.Lib Fx Ho Mp
set_option linter.unusedVariables false
namespace Cr
variable {w w' W W0 : World} {p n : Nat} {mp : Option Nat} {ratio bank : Int} {m : Int → Sm} {H H' : Home}
/-- May so many words more be allocated? -/
def alB (ratio : Int) (x : Sm) (k : Int) : Bool := decide (ratio ≤ 0) || decide (addI x.1 k ≤ 64 + cov ratio x.2)
theorem boxed (W : World) (a s : Int) (q i : Nat) (x : Int) : Below W.heap.size W (((W.alloc (.cells #[.int .i64 a, .int .i64 s] 116)).drewN q).setCell ⟨W.heap.size, i, none⟩ (.int .i64 x)) ∧ (((W.alloc (.cells #[.int .i64 a, .int .i64 s] 116)).drewN q).setCell ⟨W.heap.size, i, none⟩ (.int .i64 x)).heap[W.heap.size]? = some (.cells ((#[.int .i64 a, .int .i64 s] : Array Value).setIfInBounds i (.int .i64 x)) 116 (0, 0)) := by
  have hb := below_drewN (below_alloc (Below.refl _ W) (.cells #[.int .i64 a, .int .i64 s] 116)) q
  have hw : Wrote (fun k => k = W.heap.size) ((W.alloc (.cells #[.int .i64 a, .int .i64 s] 116)).drewN q) (fun k => k = W.heap.size) (((W.alloc (.cells #[.int .i64 a, .int .i64 s] 116)).drewN q).setCell ⟨W.heap.size, i, none⟩ (.int .i64 x)) := wrote_setCell (H := fun k => k = W.heap.size) (a := ⟨W.heap.size, i, none⟩) (u := .int .i64 x) rfl rfl rfl rfl rfl
  refine ⟨hw.below (fun k e => by rw [show k = W.heap.size from e]; exact Nat.le_refl _) hb, ?_⟩
  have hx : ((W.alloc (.cells #[.int .i64 a, .int .i64 s] 116)).drewN q).heap[W.heap.size]? = some (.cells #[.int .i64 a, .int .i64 s] 116 (0, 0)) := heap_alloc_new W (.cells #[.int .i64 a, .int .i64 s] 116)
  rw [heap_setCell_same _ W.heap.size i _ _ _ hx]
set_option maxRecDepth 100000 in
theorem alloc_neg (g k : Int) (hk : k < 0) (W : World) : Calls Try.prog 18 #[.pointer (some ⟨p, 0, none⟩), .int .i64 g, .int .i64 k] W (Still (.bool false) W) := by
  go_enter Try.func18, Try.ntmps18
  go_wp2_with fail
  go_ret
  exact ⟨rfl, rfl⟩
set_option maxRecDepth 100000 in
set_option maxHeartbeats 1000000 in
theorem alloc_free (h : Sc W0 W p H ratio bank n m) (hr : ratio ≤ 0) {g : Int} (hg : (Lit.int .i64 g).wf = true) (k : Int) (hk : 0 ≤ k) (hk2 : inI k) (hn : n ≤ 100000) : Calls Try.prog 18 #[.pointer (some ⟨p, 0, none⟩), .int .i64 g, .int .i64 k] W (Step (.bool true) W0 W p H ratio bank (n + 1) (up m g (addI (m g).1 k, (m g).2))) := by
  have h0 := Lib.hid h
  obtain ⟨mp, h1, hl, hb0, hH⟩ := h
  have hlook := h1.look hg W (Below.refl _ _)
  have c2 := cell_of h1.head (j := 2) rfl
  have hv := h1.val g
  have hk0 : ¬ k < 0 := by omega
  have ca := fun w => add_any (m g).1 k hv.1 hk2 w
  have hF : Hid (∀ w', Below W.heap.size W w' → Calls Try.prog 86 #[.pointer (some ⟨p, 0, none⟩)] w' (Still (.bool (decide (ratio ≤ 0))) w')) := Lib.hid fun w' hb => free_any (h1.below hb)
  have hCv : Hid (∀ w', Below W.heap.size W w' → Calls Try.prog 87 #[.pointer (some ⟨p, 0, none⟩), .int .i64 (m g).2] w' (Ans (.int .i64 (cov ratio (m g).2)) w')) := Lib.hid fun w' hb => covered_any (h1.below hb) _ hv.2
  have hcb := cov_bd ratio (m g).2
  have hai : inI (addI (m g).1 k) := clampI_in _
  obtain ⟨a, s, hx⟩ : ∃ a s, m g = (a, s) := ⟨_, _, rfl⟩
  rw [hx] at hlook ca hv hCv hcb hai
  rw [show (m g).1 = a from by rw [hx], show (m g).2 = s from by rw [hx]]
  rw [decide_eq_true hr] at hF
  clear h1 hl hb0 hx hk2
  go_enter Try.func18, Try.ntmps18
  go_wp2_with fail
  with_reducible refine Calls.mono (ca _) ?_
  rintro e w1 ⟨rfl, m1, rfl⟩
  clear ca c2 hlook
  generalize addI a k = ak at *
  go_wp2_with fail
  obtain ⟨hbx, hz⟩ := boxed W a s m1 0 ak
  generalize ((W.alloc (.cells #[.int .i64 a, .int .i64 s] 116)).drewN m1).setCell ⟨W.heap.size, 0, none⟩ (.int .i64 ak) = w2 at *
  have z0 := cell_of hz (j := 0) (x := .int .i64 ak) rfl
  have z1 := cell_of hz (j := 1) (x := .int .i64 s) rfl
  have hF2 : ∀ q, Calls Try.prog 86 #[.pointer (some ⟨p, 0, none⟩)] (w2.drewN q) (Still _ (w2.drewN q)) := fun q => hF.out _ (below_drewN hbx q)
  have hC2 : ∀ q, Calls Try.prog 87 #[.pointer (some ⟨p, 0, none⟩), .int .i64 s] (w2.drewN q) (Ans _ (w2.drewN q)) := fun q => hCv.out _ (below_drewN hbx q)
  generalize cov ratio s = cv at *
  clear hF hCv hz
  go_quiet (first | (go_at_call 86; exact Calls.quiet_of_same ((hF2 _).mono fun _ _ h => ⟨h.1, h.2.symm⟩)) | (go_at_call 87; exact quiet_ans1 (hC2 _)))
  have hb3 := below_drewN hbx nq
  have z0' := cell_then (below_drewN (Below.refl _ w2) nq) z0
  have z1' := cell_then (below_drewN (Below.refl _ w2) nq) z1
  have cs := set_any (h0.out.below hb3) hg ak s ⟨hai, hv.2⟩ hn
  replace cs := cs.mono fun e w hs => Sc.then_ hb3 hs
  generalize w2.drewN nq = w3 at *
  clear hF2 hC2 z0 z1 hbx h0 hb3 hai hv
  go_wp2_with fail
  with_reducible refine Calls.mono cs ?_
  rintro e w4 ⟨rfl, hf⟩
  replace hf := Lib.hid hf
  clear cs z0' z1'
  go_wp2_with fail
  go_ret
  exact ⟨rfl, hf.out⟩
set_option maxRecDepth 100000 in
set_option maxHeartbeats 1000000 in
theorem alloc_yes (h : Sc W0 W p H ratio bank n m) (hr : 0 < ratio) {g : Int} (hg : (Lit.int .i64 g).wf = true) (k : Int) (hk : 0 ≤ k) (hk2 : inI k) (hn : n ≤ 100000) (hle : addI (m g).1 k ≤ 64 + cov ratio (m g).2) : Calls Try.prog 18 #[.pointer (some ⟨p, 0, none⟩), .int .i64 g, .int .i64 k] W (Step (.bool true) W0 W p H ratio bank (n + 1) (up m g (addI (m g).1 k, (m g).2))) := by
  have h0 := Lib.hid h
  obtain ⟨mp, h1, hl, hb0, hH⟩ := h
  have hlook := h1.look hg W (Below.refl _ _)
  have c2 := cell_of h1.head (j := 2) rfl
  have hv := h1.val g
  have hk0 : ¬ k < 0 := by omega
  have ca := fun w => add_any (m g).1 k hv.1 hk2 w
  have hF : Hid (∀ w', Below W.heap.size W w' → Calls Try.prog 86 #[.pointer (some ⟨p, 0, none⟩)] w' (Still (.bool (decide (ratio ≤ 0))) w')) := Lib.hid fun w' hb => free_any (h1.below hb)
  have hCv : Hid (∀ w', Below W.heap.size W w' → Calls Try.prog 87 #[.pointer (some ⟨p, 0, none⟩), .int .i64 (m g).2] w' (Ans (.int .i64 (cov ratio (m g).2)) w')) := Lib.hid fun w' hb => covered_any (h1.below hb) _ hv.2
  have hcb := cov_bd ratio (m g).2
  have hai : inI (addI (m g).1 k) := clampI_in _
  obtain ⟨a, s, hx⟩ : ∃ a s, m g = (a, s) := ⟨_, _, rfl⟩
  rw [hx] at hlook ca hv hCv hcb hai
  rw [show (m g).1 = a from by rw [hx], show (m g).2 = s from by rw [hx]]
  rw [decide_eq_false (by omega)] at hF
  rw [show (m g).1 = a from by rw [hx], show (m g).2 = s from by rw [hx]] at hle
  clear h1 hl hb0 hx hk2
  go_enter Try.func18, Try.ntmps18
  go_wp2_with fail
  with_reducible refine Calls.mono (ca _) ?_
  rintro e w1 ⟨rfl, m1, rfl⟩
  clear ca c2 hlook
  generalize addI a k = ak at *
  go_wp2_with fail
  obtain ⟨hbx, hz⟩ := boxed W a s m1 0 ak
  generalize ((W.alloc (.cells #[.int .i64 a, .int .i64 s] 116)).drewN m1).setCell ⟨W.heap.size, 0, none⟩ (.int .i64 ak) = w2 at *
  have z0 := cell_of hz (j := 0) (x := .int .i64 ak) rfl
  have z1 := cell_of hz (j := 1) (x := .int .i64 s) rfl
  have hF2 : ∀ q, Calls Try.prog 86 #[.pointer (some ⟨p, 0, none⟩)] (w2.drewN q) (Still _ (w2.drewN q)) := fun q => hF.out _ (below_drewN hbx q)
  have hC2 : ∀ q, Calls Try.prog 87 #[.pointer (some ⟨p, 0, none⟩), .int .i64 s] (w2.drewN q) (Ans _ (w2.drewN q)) := fun q => hCv.out _ (below_drewN hbx q)
  generalize cov ratio s = cv at *
  have hle' : ¬ (64 + cv < ak) := by omega
  clear hF hCv hz
  go_quiet (first | (go_at_call 86; exact Calls.quiet_of_same ((hF2 _).mono fun _ _ h => ⟨h.1, h.2.symm⟩)) | (go_at_call 87; exact quiet_ans1 (hC2 _)))
  have hb3 := below_drewN hbx nq
  have z0' := cell_then (below_drewN (Below.refl _ w2) nq) z0
  have z1' := cell_then (below_drewN (Below.refl _ w2) nq) z1
  have cs := set_any (h0.out.below hb3) hg ak s ⟨hai, hv.2⟩ hn
  replace cs := cs.mono fun e w hs => Sc.then_ hb3 hs
  generalize w2.drewN nq = w3 at *
  clear hF2 hC2 z0 z1 hbx h0 hb3 hai hv
  go_wp2_with fail
  with_reducible refine Calls.mono cs ?_
  rintro e w4 ⟨rfl, hf⟩
  replace hf := Lib.hid hf
  clear cs z0' z1'
  go_wp2_with fail
  go_ret
  exact ⟨rfl, hf.out⟩
set_option maxRecDepth 100000 in
set_option maxHeartbeats 1000000 in
theorem alloc_no (h : Sc W0 W p H ratio bank n m) (hr : 0 < ratio) {g : Int} (hg : (Lit.int .i64 g).wf = true) (k : Int) (hk : 0 ≤ k) (hk2 : inI k) (hle : 64 + cov ratio (m g).2 < addI (m g).1 k) : Calls Try.prog 18 #[.pointer (some ⟨p, 0, none⟩), .int .i64 g, .int .i64 k] W (AnsB (.bool false) W) := by
  have h0 := Lib.hid h
  obtain ⟨mp, h1, hl, hb0, hH⟩ := h
  have hlook := h1.look hg W (Below.refl _ _)
  have c2 := cell_of h1.head (j := 2) rfl
  have hv := h1.val g
  have hk0 : ¬ k < 0 := by omega
  have ca := fun w => add_any (m g).1 k hv.1 hk2 w
  have hF : Hid (∀ w', Below W.heap.size W w' → Calls Try.prog 86 #[.pointer (some ⟨p, 0, none⟩)] w' (Still (.bool (decide (ratio ≤ 0))) w')) := Lib.hid fun w' hb => free_any (h1.below hb)
  have hCv : Hid (∀ w', Below W.heap.size W w' → Calls Try.prog 87 #[.pointer (some ⟨p, 0, none⟩), .int .i64 (m g).2] w' (Ans (.int .i64 (cov ratio (m g).2)) w')) := Lib.hid fun w' hb => covered_any (h1.below hb) _ hv.2
  have hcb := cov_bd ratio (m g).2
  have hai : inI (addI (m g).1 k) := clampI_in _
  obtain ⟨a, s, hx⟩ : ∃ a s, m g = (a, s) := ⟨_, _, rfl⟩
  rw [hx] at hlook ca hv hCv hcb hai
  rw [decide_eq_false (by omega)] at hF
  rw [show (m g).1 = a from by rw [hx], show (m g).2 = s from by rw [hx]] at hle
  clear h1 hl hb0 hx hk2
  go_enter Try.func18, Try.ntmps18
  go_wp2_with fail
  with_reducible refine Calls.mono (ca _) ?_
  rintro e w1 ⟨rfl, m1, rfl⟩
  clear ca c2 hlook
  generalize addI a k = ak at *
  go_wp2_with fail
  obtain ⟨hbx, hz⟩ := boxed W a s m1 0 ak
  generalize ((W.alloc (.cells #[.int .i64 a, .int .i64 s] 116)).drewN m1).setCell ⟨W.heap.size, 0, none⟩ (.int .i64 ak) = w2 at *
  have z0 := cell_of hz (j := 0) (x := .int .i64 ak) rfl
  have z1 := cell_of hz (j := 1) (x := .int .i64 s) rfl
  have hF2 : ∀ q, Calls Try.prog 86 #[.pointer (some ⟨p, 0, none⟩)] (w2.drewN q) (Still _ (w2.drewN q)) := fun q => hF.out _ (below_drewN hbx q)
  have hC2 : ∀ q, Calls Try.prog 87 #[.pointer (some ⟨p, 0, none⟩), .int .i64 s] (w2.drewN q) (Ans _ (w2.drewN q)) := fun q => hCv.out _ (below_drewN hbx q)
  generalize cov ratio s = cv at *
  have hle' : 64 + cv < ak := by omega
  clear hF hCv hz
  go_quiet (first | (go_at_call 86; exact Calls.quiet_of_same ((hF2 _).mono fun _ _ h => ⟨h.1, h.2.symm⟩)) | (go_at_call 87; exact quiet_ans1 (hC2 _)))
  have hb3 := below_drewN hbx nq
  generalize w2.drewN nq = w3 at *
  clear hF2 hC2 z0 z1 hbx
  go_wp2_with fail
  go_ret
  exact ⟨rfl, hb3⟩
set_option maxRecDepth 100000 in
set_option maxHeartbeats 1000000 in
/-- So many words more were scanned. -/
theorem add_to (h : Sc W0 W p H ratio bank n m) {g : Int} (hg : (Lit.int .i64 g).wf = true) (k : Int) (hk2 : inI k) (hn : n ≤ 100000) : Calls Try.prog 84 #[.pointer (some ⟨p, 0, none⟩), .int .i64 g, .int .i64 k] W (Step (.tuple #[]) W0 W p H ratio bank (n + 1) (up m g ((m g).1, addI (m g).2 k))) := by
  have h0 := Lib.hid h
  obtain ⟨mp, h1, hl, hb0, hH⟩ := h
  have hlook := h1.look hg W (Below.refl _ _)
  have c2 := cell_of h1.head (j := 2) rfl
  have hv := h1.val g
  have ca := fun w => add_any (m g).2 k hv.2 hk2 w
  have hai : inI (addI (m g).2 k) := clampI_in _
  obtain ⟨a, s, hx⟩ : ∃ a s, m g = (a, s) := ⟨_, _, rfl⟩
  rw [hx] at hlook ca hv hai
  rw [show (m g).1 = a from by rw [hx], show (m g).2 = s from by rw [hx]]
  clear h1 hl hb0 hx hk2
  go_enter Try.func84, Try.ntmps84
  go_wp2_with fail
  with_reducible refine Calls.mono (ca _) ?_
  rintro e w1 ⟨rfl, m1, rfl⟩
  clear ca c2 hlook
  generalize addI s k = sk at *
  obtain ⟨hbx, hz⟩ := boxed W a s m1 1 sk
  have cs := set_any (h0.out.below hbx) hg a sk ⟨hv.1, hai⟩ hn
  replace cs := cs.mono fun e w hs => Sc.then_ hbx hs
  obtain ⟨w2, hw2⟩ : ∃ w2, ((W.alloc (.cells #[.int .i64 a, .int .i64 s] 116)).drewN m1).setCell ⟨W.heap.size, 1, none⟩ (.int .i64 sk) = w2 := ⟨_, rfl⟩
  rw [hw2] at hbx hz cs
  have z0 := cell_of hz (j := 0) (x := .int .i64 a) rfl
  have z1 := cell_of hz (j := 1) (x := .int .i64 sk) rfl
  clear h0 hbx hz hv hai
  go_wp2_with fail
  with_reducible refine Calls.mono cs ?_
  rintro e w4 ⟨rfl, hf⟩
  go_wp2_with fail
  go_end0
  exact ⟨rfl, hf⟩
set_option maxRecDepth 100000 in
theorem scan_any (h : Sc W0 W p H ratio bank n m) {g : Int} (hg : (Lit.int .i64 g).wf = true) (k : Int) (hk : 0 < k) (hk2 : inI k) (hn : n ≤ 100000) : Calls Try.prog 16 #[.pointer (some ⟨p, 0, none⟩), .int .i64 g, .int .i64 k] W (Step (.tuple #[]) W0 W p H ratio bank (n + 1) (up m g ((m g).1, addI (m g).2 k))) := by
  have ca := add_to h hg k hk2 hn
  clear h
  go_enter Try.func16, Try.ntmps16
  go_wp2_with fail
  with_reducible refine Calls.mono ca ?_
  rintro e w4 ⟨rfl, hf⟩
  go_wp2_with fail
  go_end0
  exact ⟨rfl, hf⟩
set_option maxRecDepth 100000 in
theorem scan_none (g k : Int) (hk : k ≤ 0) (W : World) : Calls Try.prog 16 #[.pointer (some ⟨p, 0, none⟩), .int .i64 g, .int .i64 k] W (Still (.tuple #[]) W) := by
  have hk0 : ¬ 0 < k := by omega
  go_enter Try.func16, Try.ntmps16
  go_wp2_with fail
  go_end0
  exact ⟨rfl, rfl⟩
set_option maxRecDepth 100000 in
set_option maxHeartbeats 1000000 in
theorem sums_any (h : Sc W0 W p H ratio bank n m) {g : Int} (hg : (Lit.int .i64 g).wf = true) : Calls Try.prog 17 #[.pointer (some ⟨p, 0, none⟩), .int .i64 g] W (AnsB (.tuple #[.int .i64 (m g).1, .int .i64 (m g).2]) W) := by
  obtain ⟨mp, h1, hl, hb0, hH⟩ := h
  have hlook := h1.look hg W (Below.refl _ _)
  have c2 := cell_of h1.head (j := 2) rfl
  obtain ⟨a, s, hx⟩ : ∃ a s, m g = (a, s) := ⟨_, _, rfl⟩
  rw [hx] at hlook
  rw [show (m g).1 = a from by rw [hx], show (m g).2 = s from by rw [hx]]
  have hb1 := below_alloc (Below.refl _ W) (.cells #[.int .i64 a, .int .i64 s] 116)
  have z0 := cell_of (heap_alloc_new W (.cells #[.int .i64 a, .int .i64 s] 116)) (j := 0) rfl
  have z1 := cell_of (heap_alloc_new W (.cells #[.int .i64 a, .int .i64 s] 116)) (j := 1) rfl
  replace hb1 := Lib.hid hb1
  clear h1 hl hb0 hx
  go_enter Try.func17, Try.ntmps17
  go_wp2_with fail
  go_quiet (fail)
  go_wp2_with fail
  go_ret2
  exact ⟨rfl, below_drewN hb1.out nq⟩
set_option maxRecDepth 100000 in
set_option maxHeartbeats 1000000 in
theorem owed_free (h : Sc W0 W p H ratio bank n m) (hr : ratio ≤ 0) (g : Int) : Calls Try.prog 23 #[.pointer (some ⟨p, 0, none⟩), .int .i64 g] W (AnsB (.int .i64 0) W) := by
  obtain ⟨mp, h1, hl, hb0, hH⟩ := h
  have hb1 := below_alloc (Below.refl _ W) (.cells #[.pointer (some ⟨p, 0, none⟩)] 23)
  have hF := free_any (h1.below hb1)
  have z0 := cell_of (heap_alloc_new W (.cells #[.pointer (some ⟨p, 0, none⟩)] 23)) (j := 0) rfl
  rw [decide_eq_true hr] at hF
  replace hb1 := Lib.hid hb1
  clear h1 hl hb0
  go_enter Try.func23, Try.ntmps23
  go_wp2_with fail
  with_reducible refine Calls.mono hF ?_
  rintro e w1 ⟨rfl, rfl⟩
  go_wp2_with fail
  go_ret
  exact ⟨rfl, hb1.out⟩
set_option maxRecDepth 100000 in
set_option maxHeartbeats 1000000 in
theorem owed_low (h : Sc W0 W p H ratio bank n m) (hr : 0 < ratio) {g : Int} (hg : (Lit.int .i64 g).wf = true) (hx : (m g).1 ≤ 64) : Calls Try.prog 23 #[.pointer (some ⟨p, 0, none⟩), .int .i64 g] W (AnsB (.int .i64 0) W) := by
  obtain ⟨mp, h1, hl, hb0, hH⟩ := h
  have hb1 := below_alloc (Below.refl _ W) (.cells #[.pointer (some ⟨p, 0, none⟩)] 23)
  have hF := free_any (h1.below hb1)
  have z0 := cell_of (heap_alloc_new W (.cells #[.pointer (some ⟨p, 0, none⟩)] 23)) (j := 0) rfl
  rw [decide_eq_false (by omega)] at hF
  have hlook := h1.look hg _ hb1
  have c2 := cell_of (h1.below hb1).head (j := 2) rfl
  obtain ⟨a, s, hm⟩ : ∃ a s, m g = (a, s) := ⟨_, _, rfl⟩
  rw [hm] at hlook
  rw [show (m g).1 = a from by rw [hm]] at hx
  have hb2 := below_then hb1 (below_alloc (Below.refl _ (W.alloc (.cells #[.pointer (some ⟨p, 0, none⟩)] 23))) (.cells #[.int .i64 a, .int .i64 s] 116))
  replace hb2 := Lib.hid hb2
  clear h1 hl hb0 hm hb1
  go_enter Try.func23, Try.ntmps23
  go_wp2_with fail
  with_reducible refine Calls.mono hF ?_
  rintro e w1 ⟨rfl, rfl⟩
  clear hF
  go_wp2_with fail
  go_ret
  exact ⟨rfl, hb2.out⟩
set_option maxRecDepth 100000 in
theorem banked_any (h : Sc W0 W p H ratio bank n m) : Calls Try.prog 26 #[.pointer (some ⟨p, 0, none⟩)] W (Still (.int .i64 bank) W) := by
  obtain ⟨mp, h1, hl, hb0, hH⟩ := h
  have c1 := cell_of h1.head (j := 1) rfl
  clear h1 hl hb0
  go_enter Try.func26, Try.ntmps26
  go_wp2_with fail
  go_ret
  exact ⟨rfl, rfl⟩
set_option maxRecDepth 100000 in
set_option maxHeartbeats 1000000 in
theorem steal_free (h : Sc W0 W p H ratio 0 n m) (hr : ratio ≤ 0) (g : Int) : Calls Try.prog 25 #[.pointer (some ⟨p, 0, none⟩), .int .i64 g] W (AnsB (.int .i64 0) W) := by
  have co := owed_free h hr g
  have hmin := fun ts t w => run_min2 (P := Try.prog) (show min (0 : Int) 0 = 0 by decide) ts t w
  replace h := Lib.hid h
  go_enter Try.func25, Try.ntmps25
  go_wp2_with fail
  with_reducible refine Calls.mono co ?_
  rintro e w1 ⟨rfl, hb⟩
  have cb := banked_any (h.out.below hb)
  replace hb := Lib.hid hb
  clear co h
  go_wp2_with fail
  with_reducible refine Calls.mono cb ?_
  rintro e w2 ⟨rfl, rfl⟩
  clear cb
  go_wp2_with fail
  go_ret
  exact ⟨rfl, hb.out⟩
end Cr
end Go.Proofs.Ytmngaedcckjfoaa
