/- For any whole number, any slice of whole numbers and any operations the statement RootsPlays answers true and leaves its arguments as they were: where marking begins goes as the document says. No condition. -/
import Derived.Test.YtkpmifkdnndccaaHome
import Derived.Test.YtkpmifkdnndccaaRootsJobs
import Derived.Test.YtkpmifkdnndccaaOp21
import Derived.WalkKit
import Derived.ProofKit
import Derived.OpenShut
import Derived.Deep.RegionHeld3
import Derived.Deep.RegionWith
import Derived.Deep.Cut
import Derived.Deep.CutBlock
import Derived.Deep.CutRange
import Derived.Deep.LoopGhost
import Derived.Deep.DeepCutAuto
import Derived.RegionTactic
import Derived.StillTailTactics
namespace Go.Proofs.Ytkpmifkdnndccaa.rootsPlays
open Go.ChangeShapes Go.WideShapes Go.ChangeAt Go.WideElems Go.RowKit Go.Lib Fx Ho Ro Rw Qu Gr
set_option linter.unusedVariables false

theorem own : ownKnob Try.prog.godebug = none := by kernel_rfl

/-- A session, and the document's own jobs beside it. -/
structure Rp (W0 W : World) (p : Nat) (H : Home) (A : List Job) (S : List Int) (v : Value) : Prop where
  s : Sro W0 W p H A S
  j : JRow W0.heap.size W v (A ++ sj S)
  o : Off (fun k => v.ownBlock = some k) H
namespace Rp
variable {W0 W W' W1 : World} {p : Nat} {H H' : Home} {A A' : List Job} {S S' : List Int} {v v1 : Value}
theorem below (h : Rp W0 W p H A S v) (hb : Below W.heap.size W W') : Rp W0 W' p H A S v := ⟨h.s.below hb, h.j.below hb, h.o⟩
/-- The program's side turns; the document's row is L. -/
theorem side (h : Rp W0 W p H A S v) (hw : Wrote H W H' W') : JRow W0.heap.size W' v (A ++ sj S) ∧ Off (fun k => v.ownBlock = some k) H' := ⟨⟨h.j.row.wrote hw (fun k hk e => h.o k hk e), h.j.low⟩, hw.off h.o (fun k hk => h.j.row.lt hk)⟩
end Rp
/-- b tells whether g is named among the first q jobs. -/
def InTo (L : List Job) (g : Int) (q : Nat) (b : Bool) : Prop := b = true ↔ ∃ i, i < q ∧ (L.getD i (0, 0, 0)).1 = g
theorem sj_cons (g : Int) (S : List Int) : sj (g :: S) = (g, 0, 16) :: sj S := rfl
theorem sj_app (S T : List Int) : sj (S ++ T) = sj S ++ sj T := List.map_append
theorem sj_len (S : List Int) : (sj S).length = S.length := List.length_map ..
theorem gj_one (t : Int) : ∀ c fr, ∀ j ∈ gj t c fr, j.1 = -1
  | 0, fr, j, h => by cases h
  | c + 1, fr, j, h => by
    rcases List.mem_cons.1 h with h | h
    · rw [h]
    · exact gj_one t c _ j h
theorem next_head {A : List Job} {S : List Int} {j : Job} {L : List Job} (h : A ++ sj S = j :: L) : nextV A S = .tuple #[jv j, .bool true] ∧ A.tail ++ sj (nextS A S) = L := by
  cases A with
  | cons a A => obtain ⟨rfl, rfl⟩ := List.cons.inj h; exact ⟨rfl, rfl⟩
  | nil => cases S with
    | nil => cases h
    | cons g S => obtain ⟨rfl, rfl⟩ := List.cons.inj h; exact ⟨rfl, rfl⟩
theorem next_none {A : List Job} {S : List Int} (h : A ++ sj S = []) : nextV A S = .tuple #[jv (0, 0, 0), .bool false] ∧ A.tail ++ sj (nextS A S) = [] := by
  cases A with
  | cons a A => cases h
  | nil => cases S with
    | nil => exact ⟨rfl, rfl⟩
    | cons g S => cases h
theorem tail_one {A : List Job} (h : ∀ j ∈ A, j.1 = -1) : ∀ j ∈ A.tail, j.1 = -1 := fun j hj => h j (List.mem_of_mem_tail hj)
theorem nextS_len (A : List Job) (S : List Int) : (nextS A S).length ≤ S.length := by
  cases A <;> simp [nextS]
/-- g is named in a row of jobs. -/
theorem in_iff {A : List Job} {S : List Int} {g : Int} (hA : ∀ j ∈ A, j.1 = -1) (hg : 0 ≤ g) : (∃ k, k < (A ++ sj S).length ∧ ((A ++ sj S).getD k (0, 0, 0)).1 = g) ↔ g ∈ S := by
  constructor
  · rintro ⟨k, hk, e⟩
    rw [List.getD_eq_getElem?_getD, List.getElem?_eq_getElem hk] at e
    have hm := List.getElem_mem hk
    rcases List.mem_append.1 hm with h | h
    · have := hA _ h; simp at e; omega
    · obtain ⟨x, hx, e2⟩ := List.mem_map.1 h
      simp at e
      rw [← e2] at e
      exact e ▸ hx
  · intro h
    have hm : (g, (0 : Int), (16 : Int)) ∈ A ++ sj S := List.mem_append_right _ (List.mem_map.2 ⟨g, h, rfl⟩)
    obtain ⟨k, hk, e⟩ := List.getElem_of_mem hm
    exact ⟨k, hk, by rw [List.getD_eq_getElem?_getD, List.getElem?_eq_getElem hk, e]; rfl⟩
/-- The cells of a job in the row. -/
theorem jcell {B : Nat} {w : World} {v : Value} {L : List Job} (h : JRow B w v L) {k : Nat} (hk : k < L.length) : ∃ b off cap, v = .slice (some ⟨b, off, none⟩) L.length cap ∧ L.length ≤ cap ∧ cap ≤ maxLen ∧ w.cell? ⟨b, off + k * 3, none⟩ = some (.int .i64 (L.getD k (0, 0, 0)).1) ∧ w.cell? ⟨b, off + k * 3 + 1, none⟩ = some (.int .i64 (L.getD k (0, 0, 0)).2.1) ∧ w.cell? ⟨b, off + k * 3 + 2, none⟩ = some (.int .i64 (L.getD k (0, 0, 0)).2.2) := by
  obtain ⟨ao, b, off, cap, e, h1, h2, h3, h4⟩ := h.row.cell
  obtain ⟨rfl, _, _⟩ := h3 (by omega)
  have hat : ∀ (L : List Job) (k : Nat), k < L.length → (jcells L)[k * 3]? = some (.int .i64 (L.getD k (0, 0, 0)).1) ∧ (jcells L)[k * 3 + 1]? = some (.int .i64 (L.getD k (0, 0, 0)).2.1) ∧ (jcells L)[k * 3 + 2]? = some (.int .i64 (L.getD k (0, 0, 0)).2.2) := by
    intro L
    induction L with
    | nil => intro k hk; simp at hk
    | cons j L ih =>
      intro k hk
      cases k with
      | zero => exact ⟨rfl, rfl, rfl⟩
      | succ k =>
        have := ih k (by simpa using hk)
        rw [show (k + 1) * 3 = k * 3 + 1 + 1 + 1 by omega]
        exact this
  obtain ⟨a0, a1, a2⟩ := hat L k hk
  exact ⟨b, off, cap, e, h1, h2, (h4 _ _ a0).1, by have := (h4 _ _ a1).1; rwa [← Nat.add_assoc] at this, by have := (h4 _ _ a2).1; rwa [← Nat.add_assoc] at this⟩
theorem jone : ∀ (L : List Job), ∀ u ∈ jcells L, u.oneCell' = true
  | [], u, h => by cases h
  | j :: L, u, h => by
    have h2 : u ∈ (Value.int .i64 j.1) :: (Value.int .i64 j.2.1) :: (Value.int .i64 j.2.2) :: jcells L := h
    rcases List.mem_cons.1 h2 with rfl | h2
    · rfl
    rcases List.mem_cons.1 h2 with rfl | h2
    · rfl
    rcases List.mem_cons.1 h2 with rfl | h2
    · rfl
    exact jone L u h2
theorem lit_row {W : World} {N : Nat} (h : N < W.heap.size) : GRow 3 W (.slice (some ⟨N, 0, none⟩) 0 0) 0 [] := ⟨some ⟨N, 0, none⟩, N, 0, 0, rfl, ⟨by decide, fun h => (by omega), fun h => (by omega), by simp, fun j u h => (by simp at h), fun j h => (by omega)⟩, ⟨by decide, fun j h => by omega⟩, .inl ⟨rfl, h⟩⟩
theorem jsrc {B : Nat} {w W : World} {v : Value} {L : List Job} (h : JRow B w v L) (hW : Below w.heap.size w W) : Src Try.prog 3 27 v L.length (jcells L) W := by
  have hg := h.row.below hW
  have hlen := hg.len
  obtain ⟨ao, b, off, cap, rfl, hc, hm, hx⟩ := hg
  rcases hx with ⟨rfl, hb⟩ | ⟨rfl, rfl⟩
  · exact Src.ofSlice _ Try.underlying27 ⟨b, off, none⟩ L.length cap (jcells L) hlen (fun j u hj => by rw [addr_add]; exact hc.olds j u hj) (jone L)
  · have h1 := hc.le
    have h0 : L.length = 0 := by omega
    have h2 := List.eq_nil_of_length_eq_zero h0
    subst h2
    exact Src.ofNil _ Try.underlying27 0
theorem src_at {W : World} {N : Nat} {g a b : Int} (hb : W.heap[N]? = some (.cells #[.int .i64 g, .int .i64 a, .int .i64 b] 32 (0, 0))) : Src Try.prog 3 27 (.slice (some ⟨N, 0, none⟩) 1 1) 1 (jcells [(g, a, b)]) W := src_new (s := 3) (A := #[.int .i64 g, .int .i64 a, .int .i64 b]) Try.underlying27 rfl (by simp [Value.oneCell']) hb
theorem lt_new (w : World) (o : Obj) : w.heap.size < (w.alloc o).heap.size := by
  show _ < (w.heap.push _).size; rw [Array.size_push]; omega
theorem size_new (w : World) (o : Obj) : (w.alloc o).heap.size = w.heap.size + 1 := by
  show (w.heap.push _).size = _; rw [Array.size_push]
theorem lt_new1 {w W : World} {o : Obj} (h : W.heap.size = w.heap.size + 1) : w.heap.size + 1 < (W.alloc o).heap.size := by have := lt_new W o; omega
theorem heap_new1 {w W : World} {C : Array Value} {t : TypeId} (h : W.heap.size = w.heap.size + 1) : (W.alloc (.cells C t)).heap[w.heap.size + 1]? = some (.cells C t (0, 0)) := by rw [← h]; exact heap_alloc_new _ _
theorem old_new {w W : World} {C : Array Value} {t : TypeId} (hb : Below (w.alloc (.cells C t)).heap.size (w.alloc (.cells C t)) W) : W.heap[w.heap.size]? = some (.cells C t (0, 0)) := (hb.block _ (lt_new _ _)).trans (heap_alloc_new _ _)
theorem app_one {wq W w1 : World} {N : Nat} {L : List Job} {v1 : Value} (hb : Below wq.heap.size wq W) (hN : wq.heap.size ≤ N) (g1 : GRow 3 w1 v1 (0 + L.length) ([] ++ jcells L)) (g2 : Wrote (fun k => (Value.slice (some ⟨N, 0, none⟩) 0 0).ownBlock = some k) W (fun k => v1.ownBlock = some k) w1) : JRow wq.heap.size w1 v1 L ∧ Below wq.heap.size wq w1 ∧ ∀ k o, k ≠ N → W.heap[k]? = some o → w1.heap[k]? = some o := by
  have hlow := low_some (n := 0) (c := 0) hN
  exact ⟨⟨by rw [Nat.zero_add] at g1; exact g1, g2.low hlow hb.size⟩, g2.below hlow hb, fun k o hk ho => (g2.block k (block_lt ho) (fun e => hk (Option.some.inj e).symm)).trans ho⟩
theorem jdrop {B : Nat} {w : World} {b off cap : Nat} {a1 : Option Addr} {j : Job} {L : List Job} (h : JRow B w (.slice (some ⟨b, off, none⟩) (L.length + 1) cap) (j :: L)) (ha : a1 = some ⟨b, off + 3, none⟩ ∨ cap = 1 ∧ a1 = some ⟨b, off, none⟩) : JRow B w (.slice a1 L.length (cap - 1)) L ∧ ∀ k, (Value.slice a1 L.length (cap - 1)).ownBlock = some k → (Value.slice (some ⟨b, off, none⟩) (L.length + 1) cap).ownBlock = some k := by
  have hd := h.row.drop (k := 1) (a1 := a1) (by simp) (ha.imp (fun e => by rw [e]; simp [addr_add]) id)
  obtain ⟨hg, ho⟩ := hd
  rw [show (jcells (j :: L)).drop (1 * 3) = jcells L from jcells_drop 1 (j :: L)] at hg
  exact ⟨⟨hg, fun k hk => h.low k (ho k hk)⟩, ho⟩
set_option maxRecDepth 100000 in
set_option maxHeartbeats 4000000 in
theorem walk (a0 : Int) (v1 : Value) (z1 : List Int) (v2 : Value) (zb2 : List _) (w : World) (w0 : (Lit.int .i64 a0).wf = true) (h1 : Ints w (fun k => k < w.heap.size) v1 z1) (h2 : Op21 w v2 zb2) :
    Calls Try.prog 3 #[.int .i64 a0, v1, v2] w fun e w' => e = .returned (.bool true) ∧ Below w.heap.size w w' := by
  obtain ⟨sp, cap, rfl, hm, hc⟩ := id h1
  obtain ⟨n1, hn1⟩ : ∃ n1, z1.length = n1 := ⟨_, rfl⟩
  obtain ⟨sp2, cap2, rfl, hm2, hc2⟩ := h2
  obtain ⟨n2, hn2⟩ : ∃ n2, zb2.length = n2 := ⟨_, rfl⟩
  rw [hn2] at hm2 hc2 ⊢
  have ct := told_any w
  by_cases hbig : 100 < a0 ∨ 20 < n1
  · rw [hn1]
    by_cases h100 : 100 < a0
    · clear hbig hc hc2 h1
      go_enter Try.func3, Try.ntmps3
      go_wp2_with fail
      with_reducible refine Calls.mono (ct) ?_
      rintro e w1 ⟨rfl, hb⟩
      clear ct
      go_wp2_with fail
      go_ret
      exact ⟨rfl, hb⟩
    · have h20 : (20 : Int) < (n1 : Int) := by omega
      have h101 : a0 ≤ 100 := by omega
      clear hbig hc hc2 h1 hn1
      go_enter Try.func3, Try.ntmps3
      go_wp2_with fail
      with_reducible refine Calls.mono (ct) ?_
      rintro e w1 ⟨rfl, hb⟩
      clear ct
      go_wp2_with fail
      go_ret
      exact ⟨rfl, hb⟩
  · have h101 : a0 ≤ 100 := by omega
    have h102 : ¬ 100 < a0 := by omega
    have h20 : ¬ (20 : Int) < (n1 : Int) := by omega
    obtain ⟨t, ht⟩ : ∃ t, max a0 0 = t := ⟨_, rfl⟩
    have cn := new_sro (n := a0) (t := t) h1 (by omega) ht (by omega)
    have hj : Hid (∀ wr, Below w.heap.size w wr → Calls Try.prog 18 #[.int .i64 a0, .slice sp n1 cap] wr fun e w' => ∃ v', e = .returned v' ∧ JRow wr.heap.size w' v' (gjobs t ++ sj z1) ∧ Below wr.heap.size wr w') := Lib.hid fun wr hb => by rw [← hn1]; exact rjobs_any (h1.below hb) (by omega) ht (by omega)
    have hz20 : Hid (z1.length ≤ 20) := Lib.hid (by omega)
    rw [hn1] at cn ⊢
    have hcells : Hid (∀ wr, Below w.heap.size w wr → ∀ i, i < n2 → ∃ b off x g, sp2 = some ⟨b, off, none⟩ ∧ wr.cell? ⟨b, off + i * 2, none⟩ = some (.int .i64 x) ∧ wr.cell? ⟨b, off + i * 2 + 1, none⟩ = some (.int .i64 g)) := Lib.hid fun wr hb i hi => by
      obtain ⟨b, off, e, _, d0, d1⟩ := hc2 i hi
      exact ⟨b, off, _, _, e, cell_then hb d0, by have := cell_then hb d1; rwa [← Nat.add_assoc] at this⟩
    have hgb : Hid ((gjobs t).length ≤ 20 ∧ ∀ j ∈ gjobs t, j.1 = -1) := Lib.hid ⟨by unfold gjobs; rw [gj_len]; have := cnt_bd (n := t) (by omega) (by omega); unfold cntJ; omega, gj_one t _ _⟩
    clear hbig hc hc2 h1 hn1 ct ht hn2
    go_enter Try.func3, Try.ntmps3
    go_wp2_with fail
    with_reducible refine Calls.mono (cn) ?_
    rintro e w1 ⟨p, H, rfl, hp, hs⟩
    have hj := hj.out w1 hs.out
    replace hs := Lib.hid hs
    clear cn
    go_wp2_with fail
    with_reducible refine Calls.mono (hj) ?_
    rintro e w2 ⟨v', rfl, hjr, hb⟩
    have hRp : Hid (Rp w w2 p H (gjobs t) z1 v') := Lib.hid ⟨hs.out.below hb, ⟨hjr.row, fun k hk => Nat.le_trans hs.out.out.size (hjr.low k hk)⟩, fun k hk e => by have := hs.out.hlt e; have := hjr.low k hk; omega⟩
    obtain ⟨s0, c0, rfl⟩ := hjr.slice
    clear hj hjr hb hs
    have hR0 : ∃ n : Nat, (gjobs t ++ sj z1).length = n ∧ Hid ((gjobs t).length ≤ 20 ∧ z1.length ≤ 20 ∧ ∀ j ∈ gjobs t, j.1 = -1) := ⟨_, rfl, Lib.hid ⟨hgb.out.1, hz20.out, hgb.out.2⟩⟩
    obtain ⟨l0, hl0, hAS⟩ := hR0
    rw [hl0] at hRp ⊢
    replace hl0 := Lib.hid hl0
    clear hgb hz20
    go_wp2_with fail
    go_loopw [8, 9] (fun v x wr => ∃ (k l : Nat) (s : Option Addr) (c : Nat) (H : Home) (A : List Job) (S : List Int), v = .slice s l c ∧ x = .int .i64 k ∧ k ≤ 60 ∧ k ≤ n2 ∧ Hid ((A ++ sj S).length = l) ∧ Hid (A.length ≤ 20 ∧ S.length ≤ 20 + k ∧ ∀ j ∈ A, j.1 = -1) ∧ Hid (Rp w wr p H A S (.slice s l c))) (fun _ x _ => (60 - (RowKit.intOf x).toNat))
    case atStart => exact ⟨0, l0, s0, c0, H, _, _, rfl, rfl, by omega, by omega, hl0, hAS, hRp⟩
    case round =>
      clear hRp hAS hl0
      obtain ⟨k, l, s, c, H, A, S, rfl, rfl, k60, kn, hl, hAS, hR⟩ := hrel
      by_cases hk : k < n2 ∧ k < 60
      · obtain ⟨hk2, hk60⟩ := hk
        have i2 : (k : Int) < (n2 : Int) := by omega
        have i3 : (k : Int) < 60 := by omega
        have i0 : (0 : Int) ≤ (k : Int) := by omega
        obtain ⟨b, off, x, g, rfl, d0w, d1w⟩ := hcells.out w (Below.refl _ _) k hk2
        have d0 := cell_then hR.out.s.out d0w
        have d1 := cell_then hR.out.s.out d1w
        have hd1 : Hid (∀ W, Below w.heap.size w W → W.cell? ⟨b, off + k * 2 + 1, none⟩ = some (.int .i64 g)) := Lib.hid fun W hW => cell_then hW d1w
        clear d0w d1w
        obtain ⟨y, hy⟩ : ∃ y, x.tmod 4 = y := ⟨_, rfl⟩
        have hy2 := trem x (b := 4) (by omega)
        have y1 : -4 < y := by omega
        have y2 : y < 4 := by omega
        clear hy2
        obtain ⟨z, hz⟩ : ∃ z, (y + 4) % 4 = z := ⟨_, rfl⟩
        by_cases hz3 : z < 3
        · have cx := hR.out.s.next
          cases hLJ : A ++ sj S with
          | nil =>
            obtain ⟨e1, e2⟩ := next_none hLJ
            rw [e1] at cx
            rw [hLJ] at hl
            obtain rfl : l = 0 := hl.out.symm
            replace e2 := Lib.hid e2
            replace hLJ := Lib.hid hLJ
            clear e1
            go_wp2_with fail
            with_reducible refine Calls.mono cx ?_
            rintro e w4 ⟨rfl, H4, hw4, hs4⟩
            clear cx
            obtain ⟨j4, o4⟩ := hR.out.side hw4
            rw [hLJ.out] at j4
            have hbx := below_alloc (Below.refl _ w4) (box3 0 0 0)
            obtain ⟨x0, x1, x2⟩ := box_cells (heap_alloc_new w4 (box3 0 0 0))
            have hR4 : Hid (Rp w (w4.alloc (box3 0 0 0)) p H4 A.tail (nextS A S) (.slice s 0 c)) := Lib.hid ⟨hs4.below hbx, by rw [e2.out]; exact j4.below hbx, o4⟩
            clear hR hw4 hs4 j4 o4 hbx d0 hy hz
            go_wp2_with fail
            generalize w4.alloc (box3 0 0 0) = w5 at *
            go_quiet (fail)
            have hR4 := hR4.out.below (below_drewN (Below.refl _ _) nq)
            generalize w5.drewN nq = w6 at *
            clear x0 x1 x2
            have cl := hR4.s.left (by have := nextS_len A S; have := hAS.out.2.1; omega)
            have hll : A.tail.length + (nextS A S).length = 0 := by have := congrArg List.length e2.out; rw [List.length_append, sj_len] at this; exact this
            rw [hll] at cl
            replace hR4 := Lib.hid hR4
            have hAS2 : Hid (A.tail.length ≤ 20 ∧ (nextS A S).length ≤ 20 + (k + 1) ∧ ∀ j ∈ A.tail, j.1 = -1) := Lib.hid ⟨by have := hAS.out.1; simp; omega, by have := nextS_len A S; have := hAS.out.2.1; omega, tail_one hAS.out.2.2⟩
            have hl2 : Hid ((A.tail ++ sj (nextS A S)).length = 0) := Lib.hid (by rw [e2.out]; rfl)
            clear hll hl hLJ e2 hAS
            go_wp2_with fail
            with_reducible refine Calls.mono cl ?_
            rintro e w7 ⟨rfl, m7, rfl⟩
            have hR4 := Lib.hid (hR4.out.below (below_drewN (Below.refl _ _) m7))
            generalize w6.drewN m7 = w7 at *
            clear cl
            go_wp2_with fail
            go_roundw
            case rel => exact ⟨k + 1, 0, s, c, H4, _, _, rfl, by go_num, by omega, by omega, hl2, hAS2, hR4⟩
            case measure => simp [RowKit.intOf]; omega
          | cons j L =>
            obtain ⟨e1, e2⟩ := next_head hLJ
            rw [e1] at cx
            rw [hLJ] at hl
            obtain rfl : l = L.length + 1 := hl.out.symm
            replace e2 := Lib.hid e2
            replace hLJ := Lib.hid hLJ
            obtain ⟨j0, j1, j2⟩ := j
            clear e1
            go_wp2_with fail
            with_reducible refine Calls.mono cx ?_
            rintro e w4 ⟨rfl, H4, hw4, hs4⟩
            clear cx
            obtain ⟨j4, o4⟩ := hR.out.side hw4
            rw [hLJ.out] at j4
            have hbx := below_alloc (Below.refl _ w4) (box3 j0 j1 j2)
            obtain ⟨x0, x1, x2⟩ := box_cells (heap_alloc_new w4 (box3 j0 j1 j2))
            have j5 := j4.below hbx
            obtain ⟨b4, f4, c4, e4, g1, g2, y0, y1', y2'⟩ := jcell j5 (k := 0) (by simp)
            have hln : (((j0, j1, j2) :: L : List Job)).length = L.length + 1 := rfl
            rw [hln] at e4 g1
            have e4c : s = some ⟨b4, f4, none⟩ ∧ c = c4 := by injection e4 with q1 q2 q3; exact ⟨q1, q3⟩
            obtain ⟨rfl, rfl⟩ := e4c
            simp only [Nat.zero_mul, Nat.add_zero, List.getD_cons_zero] at y0 y1' y2'
            have hkey : Hid (∀ a1 W, (a1 = some ⟨b4, f4 + 3, none⟩ ∨ c = 1 ∧ a1 = some ⟨b4, f4, none⟩) → Below (w4.alloc (box3 j0 j1 j2)).heap.size (w4.alloc (box3 j0 j1 j2)) W → Rp w W p H4 A.tail (nextS A S) (.slice a1 L.length (c - 1))) := Lib.hid fun a1 W ha1 hW => by
              obtain ⟨t1, t2⟩ := jdrop (j5.below hW) ha1
              exact ⟨(hs4.below hbx).below hW, by rw [e2.out]; exact t1, fun k' hk' e => o4 k' (t2 k' hk') e⟩
            have l1 : (0 : Int) < (L.length : Int) + 1 := by omega
            have l2 : (1 : Int) ≤ (L.length : Int) + 1 := by omega
            have hs5 := Lib.hid (hs4.below hbx)
            have hLl : Hid (L.length ≤ 200) := Lib.hid (by have := congrArg List.length e2.out; rw [List.length_append, sj_len] at this; have := nextS_len A S; have := hAS.out.1; have := hAS.out.2.1; simp at *; omega)
            unfold maxLen at g2
            clear hR hw4 hs4 j4 j5 o4 hbx d0 hy hz hln e4
            go_wp2_with fail
            generalize w4.alloc (box3 j0 j1 j2) = w5 at *
            go_quiet (fail)
            by_cases hc1 : c = 1
            · subst hc1
              have hL0 : L.length = 0 := by omega
              have hLn := List.eq_nil_of_length_eq_zero hL0
              subst hLn
              have hR4 := hkey.out (some ⟨b4, f4, none⟩) (w5.drewN nq) (.inr ⟨rfl, rfl⟩) (below_drewN (Below.refl _ _) nq)
              generalize w5.drewN nq = w6 at *
              clear hL0 x0 x1 x2 y0 y1' y2' hkey hs5
              have cl := hR4.s.left (by have := nextS_len A S; have := hAS.out.2.1; omega)
              have hll : A.tail.length + (nextS A S).length = ([] : List Job).length := by have := congrArg List.length e2.out; rw [List.length_append, sj_len] at this; exact this
              rw [hll] at cl
              replace hR4 := Lib.hid hR4
              have hAS2 : Hid (A.tail.length ≤ 20 ∧ (nextS A S).length ≤ 20 + (k + 1) ∧ ∀ j ∈ A.tail, j.1 = -1) := Lib.hid ⟨by have := hAS.out.1; rw [List.length_tail]; omega, by have := nextS_len A S; have := hAS.out.2.1; omega, tail_one hAS.out.2.2⟩
              have hl2 : Hid ((A.tail ++ sj (nextS A S)).length = ([] : List Job).length) := Lib.hid (by rw [e2.out])
              clear hll hl hLJ e2 hAS
              go_wp2_with fail
              with_reducible refine Calls.mono cl ?_
              rintro e w7 ⟨rfl, m7, rfl⟩
              have hR4 := Lib.hid (hR4.out.below (below_drewN (Below.refl _ _) m7))
              generalize w6.drewN m7 = w7 at *
              clear cl
              go_wp2_with fail
              go_roundw
              case rel => exact ⟨k + 1, ([] : List Job).length, _, _, H4, _, _, rfl, by go_num, by omega, by omega, hl2, hAS2, hR4⟩
              case measure => simp [RowKit.intOf]; omega
            · have hc0 : ¬ c = 0 := by omega
              have hR4 := hkey.out (some ⟨b4, f4 + 3, none⟩) (w5.drewN nq) (.inl rfl) (below_drewN (Below.refl _ _) nq)
              generalize w5.drewN nq = w6 at *
              clear x0 x1 x2 y0 y1' y2' hkey hs5
              have cl := hR4.s.left (by have := nextS_len A S; have := hAS.out.2.1; omega)
              have hll : A.tail.length + (nextS A S).length = L.length := by have := congrArg List.length e2.out; rw [List.length_append, sj_len] at this; exact this
              rw [hll] at cl
              replace hR4 := Lib.hid hR4
              have hAS2 : Hid (A.tail.length ≤ 20 ∧ (nextS A S).length ≤ 20 + (k + 1) ∧ ∀ j ∈ A.tail, j.1 = -1) := Lib.hid ⟨by have := hAS.out.1; rw [List.length_tail]; omega, by have := nextS_len A S; have := hAS.out.2.1; omega, tail_one hAS.out.2.2⟩
              have hl2 : Hid ((A.tail ++ sj (nextS A S)).length = L.length) := Lib.hid (by rw [e2.out])
              clear hll hl hLJ e2 hAS
              go_wp2_with fail
              with_reducible refine Calls.mono cl ?_
              rintro e w7 ⟨rfl, m7, rfl⟩
              have hR4 := Lib.hid (hR4.out.below (below_drewN (Below.refl _ _) m7))
              generalize w6.drewN m7 = w7 at *
              clear cl
              go_wp2_with fail
              go_roundw
              case rel => exact ⟨k + 1, L.length, _, _, H4, _, _, rfl, by go_num, by omega, by omega, hl2, hAS2, hR4⟩
              case measure => simp [RowKit.intOf]; omega
        · have hz4 : ¬ z < 3 := hz3
          by_cases hg : g < 0
          · have hb := hR.out.s.out
            have ct := told_any wr
            clear hR hAS hl hcells hd1
            go_wp2_with fail
            with_reducible refine Calls.mono ct ?_
            rintro e w5 ⟨rfl, hb5⟩
            have hb := hb.trans (hb5.mono hb.size)
            clear ct hb5
            go_wp2_with fail
            go_ret
            exact ⟨rfl, hb⟩
          · have cy := hR.out.s.add g (by have := hAS.out.2.1; omega)
            go_wp2_with fail
            with_reducible refine Calls.mono cy ?_
            rintro e w4 ⟨rfl, H4, hw4, hs4⟩
            clear cy
            obtain ⟨j4, o4⟩ := hR.out.side hw4
            clear hR hw4 d0 d1 hy hz
            have hS4 := Lib.hid hs4
            have hj4 := Lib.hid j4
            have ho4 := Lib.hid o4
            have hii := Lib.hid (in_iff (S := S) hAS.out.2.2 (by omega : 0 ≤ g))
            have hst : Hid (InTo (A ++ sj S) g 0 false) := Lib.hid ⟨(fun h => by cases h), (fun ⟨i, hi, _⟩ => by omega)⟩
            clear hs4 j4 o4
            go_wp2_with fail
            go_loopw [12, 13] (fun u v wq => ∃ (q : Nat) (bq : Bool), u = .bool bq ∧ v = .int .i64 q ∧ q ≤ l ∧ Hid (InTo (A ++ sj S) g q bq) ∧ Hid (Below w4.heap.size w4 wq)) (fun _ v _ => (l - (RowKit.intOf v).toNat))
            case atStart => exact ⟨0, false, rfl, rfl, by omega, hst, Lib.hid (Below.refl _ _)⟩
            case round =>
              clear hst
              obtain ⟨q, bq, rfl, rfl, q1, hbq, hbw⟩ := hrel
              obtain ⟨wq, rfl⟩ : ∃ wq : World, wq = wr := ⟨_, rfl⟩
              by_cases hq : q < l
              · have q2 : (q : Int) < (l : Int) := by omega
                have q0 : (0 : Int) ≤ (q : Int) := by omega
                have hd := hd1.out wq (hS4.out.out.trans (hbw.out.mono hS4.out.out.size))
                obtain ⟨b4, f4, c4, e4, g1, g2, y0', -, -⟩ := jcell (hj4.out.below hbw.out) (k := q) (by rw [hl.out]; exact hq)
                rw [hl.out] at e4 g1
                have e4c : s = some ⟨b4, f4, none⟩ ∧ c = c4 := by injection e4 with q1 q2 q3; exact ⟨q1, q3⟩
                obtain ⟨rfl, rfl⟩ := e4c
                unfold maxLen at g2
                clear e4
                cases bq with
                | true =>
                  have hb2 : Hid (InTo (A ++ sj S) g (q + 1) true) := Lib.hid ⟨(fun h => by obtain ⟨i, hi, e⟩ := hbq.out.1 h; exact ⟨i, by omega, e⟩), fun _ => rfl⟩
                  clear hbq y0'
                  go_wp2_with fail
                  go_quiet (fail)
                  have hbw := Lib.hid (hbw.out.trans (below_drewN (Below.refl _ _) nq))
                  generalize wq.drewN nq = w6 at *
                  go_wp2_with fail
                  go_roundw
                  case rel => exact ⟨q + 1, true, rfl, by go_num, by omega, hb2, hbw⟩
                  case measure => simp [RowKit.intOf]; omega
                | false =>
                  obtain ⟨y3, hy3⟩ : ∃ y3, ((A ++ sj S).getD q (0, 0, 0)).1 = y3 := ⟨_, rfl⟩
                  rw [hy3] at y0'
                  obtain ⟨bb, hbb⟩ : ∃ bb : Bool, (y3 == g) = bb := ⟨_, rfl⟩
                  have hb2 : Hid (InTo (A ++ sj S) g (q + 1) bb) := Lib.hid ⟨(fun h => ⟨q, by omega, by rw [hy3]; rw [h] at hbb; exact eq_of_beq hbb⟩), (fun ⟨i, hi, e⟩ => by
                    by_cases eq : i = q
                    · subst eq; rw [hy3] at e; rw [← hbb, e]; exact beq_self_eq_true g
                    · have := hbq.out.2 ⟨i, by omega, e⟩; cases this)⟩
                  replace hy3 := Lib.hid hy3
                  clear hbq
                  go_wp2_with fail
                  go_quiet (fail)
                  have hbw := Lib.hid (hbw.out.trans (below_drewN (Below.refl _ _) nq))
                  generalize wq.drewN nq = w6 at *
                  go_wp2_with fail
                  go_roundw
                  case rel => exact ⟨q + 1, bb, rfl, by go_num, by omega, hb2, hbw⟩
                  case measure => simp [RowKit.intOf]; omega
              · obtain rfl : q = l := by omega
                have q2 : ¬ ((q : Int) < (q : Int)) := by omega
                cases bq with
                | true =>
                  have hgS : g ∈ S := by obtain ⟨i, hi, e⟩ := hbq.out.1 rfl; exact hii.out.1 ⟨i, by rw [hl.out]; exact hi, e⟩
                  have hs5 := hS4.out
                  rw [if_pos hgS] at hs5
                  have hs6 := hs5.below hbw.out
                  have hR6 : Hid (Rp w wq p H4 A S (.slice s q c)) := Lib.hid ⟨hs6, hj4.out.below hbw.out, ho4.out⟩
                  have cl := hs6.left (by have := hAS.out.2.1; omega)
                  have hll : A.length + S.length = q := by have := hl.out; rw [List.length_append, sj_len] at this; exact this
                  rw [hll] at cl
                  have hAS2 : Hid (A.length ≤ 20 ∧ S.length ≤ 20 + (k + 1) ∧ ∀ j ∈ A, j.1 = -1) := Lib.hid ⟨hAS.out.1, by have := hAS.out.2.1; omega, hAS.out.2.2⟩
                  clear hs5 hs6 hgS hS4 hj4 ho4 hii hbq hll hAS hbw
                  go_wp2_with fail
                  with_reducible refine Calls.mono cl ?_
                  rintro e w7 ⟨rfl, m7, rfl⟩
                  have hR6 := Lib.hid (hR6.out.below (below_drewN (Below.refl _ _) m7))
                  generalize wq.drewN m7 = w7 at *
                  clear cl
                  go_wp2_with fail
                  go_roundw
                  case rel => exact ⟨k + 1, q, _, _, H4, _, _, rfl, by go_num, by omega, by omega, hl, hAS2, hR6⟩
                  case measure => simp [RowKit.intOf]; omega
                | false =>
                  have hgS : g ∉ S := fun h => by
                    obtain ⟨i, hi, e⟩ := hii.out.2 h
                    have := hbq.out.2 ⟨i, by rw [hl.out] at hi; exact hi, e⟩
                    cases this
                  have hs5 := hS4.out
                  rw [if_neg hgS] at hs5
                  have hs6 := Lib.hid (hs5.below hbw.out)
                  have hd := hd1.out wq (hS4.out.out.trans (hbw.out.mono hS4.out.out.size))
                  have hj6 := hj4.out.below hbw.out
                  have hlL := hl.out
                  obtain ⟨L, hLe⟩ : ∃ L, A ++ sj S = L := ⟨_, rfl⟩
                  rw [hLe] at hj6 hlL
                  replace hLe := Lib.hid hLe
                  obtain rfl := hlL
                  have hsrc : Hid (∀ W, Below wq.heap.size wq W → Src Try.prog 3 27 (.slice s L.length c) L.length (jcells L) W) := Lib.hid fun W hW => jsrc hj6 hW
                  have hL2 : L.length ≤ 200 := by have h1 := congrArg List.length hLe.out; rw [List.length_append, sj_len] at h1; have := hAS.out.1; have := hAS.out.2.1; omega
                  have hbd1 : 0 + L.length ≤ 1000000 := by omega
                  have hbd2 : L.length + 1 ≤ 1000000 := by omega
                  have hsz : Hid (w.heap.size ≤ wq.heap.size) := Lib.hid hs6.out.out.size
                  have hAS2 : Hid (A.length ≤ 20 ∧ (S ++ [g]).length ≤ 20 + (k + 1) ∧ ∀ j ∈ A, j.1 = -1) := Lib.hid ⟨hAS.out.1, by have := hAS.out.2.1; rw [List.length_append, List.length_singleton]; omega, hAS.out.2.2⟩
                  have hll : A.length + (S ++ [g]).length = L.length + 1 := by have h1 := congrArg List.length hLe.out; rw [List.length_append, sj_len] at h1; rw [List.length_append, List.length_singleton]; omega
                  have hl2 : Hid ((A ++ sj (S ++ [g])).length = L.length + 1) := Lib.hid (by rw [List.length_append, sj_len]; exact hll)
                  replace hll := Lib.hid hll
                  have hap : Hid (∀ wF v, JRow wq.heap.size wF v (L ++ [(g, 0, 16)]) → Below wq.heap.size wq wF → Rp w wF p H4 A (S ++ [g]) v) := Lib.hid fun wF v r1 r2 => ⟨hs6.out.below r2, ⟨by rw [sj_app, ← List.append_assoc, hLe.out]; exact r1.row, fun k' e => Nat.le_trans hsz.out (r1.low k' e)⟩, fun k' e h => by have := r1.low k' e; have := hs6.out.hlt h; omega⟩
                  have hblt : b < wq.heap.size := World.block_lt_of_cell? wq _ hd
                  have hdq : Hid (∀ W, Below wq.heap.size wq W → W.cell? ⟨b, off + k * 2 + 1, none⟩ = some (.int .i64 g)) := Lib.hid fun W hW => cell_then hW hd
                  clear hgS hs5 hj6 hS4 hj4 ho4 hii hbq hl hAS hbw hsz hL2 hs6
                  replace hLe := Lib.hid hLe
                  go_wp2_with fail
                  go_region_law (first
                    | (refine step_append_g rfl (.tmp 119) (.tmp 126) rfl rfl eltJ (hr1.out.row.below (by (repeat (first | exact Below.refl _ _ | refine below_alloc ?_ _ | refine below_drewN ?_ _ | refine Below.drew ?_)))) rfl rfl (src_at (g := g) (a := 0) (b := 16) (by first | exact hjb.out | exact heap_alloc_new w1 _)) hbd2 ?_; intro v2 w2 g3 g4; have hk2 := hr1.out.more hB1.out.size (by (repeat (first | exact Below.refl _ _ | refine below_alloc ?_ _ | refine below_drewN ?_ _ | refine Below.drew ?_))) g3 g4; obtain ⟨s3, c3, rfl⟩ := g3.slice; have hR6 := Lib.hid (hap.out _ _ hk2.1 (hB1.out.trans hk2.2)); clear g3 g4 hk2 hr1 hB1 hap hdq)
                    | (refine step_append_g rfl (.tmp 117) (.tmp 118) rfl rfl eltJ (lit_row (by first | exact lt_new _ _ | exact lt_new1 (by exact size_new wq _) | exact Nat.lt_trans (lt_new _ _) (lt_new _ _))) rfl rfl (hsrc.out _ (by (repeat (first | exact Below.refl _ _ | refine below_alloc ?_ _ | refine below_drewN ?_ _ | refine Below.drew ?_)))) hbd1 ?_; intro v1 w1 g1 g2; have hk := app_one (wq := wq) (by (repeat (first | exact Below.refl _ _ | refine below_alloc ?_ _ | refine below_drewN ?_ _ | refine Below.drew ?_))) (by first | exact Nat.le_refl _ | exact Nat.le_succ _ | exact Below.size (w := wq) (by (repeat (first | exact Below.refl _ _ | refine below_alloc ?_ _ | refine below_drewN ?_ _ | refine Below.drew ?_)))) g1 g2; have hr1 := Lib.hid hk.1; have hB1 := Lib.hid hk.2.1; have hk3 := Lib.hid hk.2.2; have hd9 := hdq.out w1 hB1.out; clear hk g1 g2; try (first
                        | (have hjb : Hid (w1.heap[wq.heap.size + 1]? = some (.cells #[.int .i64 g, .int .i64 0, .int .i64 16] 32 (0, 0))) := Lib.hid (hk3.out (wq.heap.size + 1) _ (Nat.succ_ne_self _) (heap_new1 (w := wq) (by exact size_new wq _))))
                        | (have hjb : Hid (w1.heap[wq.heap.size]? = some (.cells #[.int .i64 g, .int .i64 0, .int .i64 16] 32 (0, 0))) := Lib.hid (hk3.out wq.heap.size _ (Nat.succ_ne_self _).symm (old_new (w := wq) (C := #[.int .i64 g, .int .i64 0, .int .i64 16]) (t := 32) (by (repeat (first | exact Below.refl _ _ | refine below_alloc ?_ _ | refine below_drewN ?_ _ | refine Below.drew ?_)))))))))
                  all_goals
                    have cl := hR6.out.s.left (by have := hAS2.out.2.1; omega)
                    rw [hll.out] at cl
                    go_wp2_with fail
                    with_reducible refine Calls.mono cl ?_
                    rintro e w7 ⟨rfl, m7, rfl⟩
                    have hR6 := Lib.hid (hR6.out.below (below_drewN (Below.refl _ _) m7))
                    generalize w2.drewN m7 = w7 at *
                    clear cl
                    go_wp2_with fail
                    go_roundw
                    case rel => exact ⟨k + 1, L.length + 1, _, _, H4, _, _, rfl, by go_num, by omega, by omega, hl2, hAS2, hR6⟩
                    case measure => simp [RowKit.intOf]; omega
      · have hke : decide ((k : Int) < (n2 : Int)) = true ∧ ¬ ((k : Int) < 60) ∨ ¬ ((k : Int) < (n2 : Int)) := by
          by_cases e : k < n2
          · exact .inl ⟨by simpa using e, by omega⟩
          · exact .inr (by omega)
        have hb := hR.out.s.out
        have ct := told_any wr
        clear hR hAS hcells
        rcases hke with ⟨e1, e2⟩ | e2
        · have e1 : (k : Int) < (n2 : Int) := by simpa using e1
          go_wp2_with fail
          with_reducible refine Calls.mono ct ?_
          rintro e w5 ⟨rfl, hb5⟩
          have hb := hb.trans (hb5.mono hb.size)
          clear ct hb5
          go_wp2_with fail
          go_ret
          exact ⟨rfl, hb⟩
        · go_wp2_with fail
          with_reducible refine Calls.mono ct ?_
          rintro e w5 ⟨rfl, hb5⟩
          have hb := hb.trans (hb5.mono hb.size)
          clear ct hb5
          go_wp2_with fail
          go_ret
          exact ⟨rfl, hb⟩

set_option maxRecDepth 100000 in
theorem lifted (os : Os) (started : os.Started) (H : Type) (enc : TypeId × Value → H) :
    ReturnsInHanded {} Try.checked os 3 .any (Rows.rootsPlaysSpec.pre6 enc Try.prog Try.f3 Rows.rootsPlaysRow.domain false) (Rows.rootsPlaysSpec.post enc Try.prog Try.f3 false true false false) := by
  refine returnsInHanded_of_change (C := Try.checked) own started (by kernel_rfl) Try.func3
    (ChangeSpec.witness6 (enc := enc) (C := Try.checked) false ⟨#[], #[.int .i64 0, .slice none 0 0, .slice none 0 0], []⟩ 8 (by kernel_rfl) (by kernel_rfl) (by kernel_rfl) (by kernel_rfl)) ?_
  intro W base args ds gs before hval0 hW hcnd _
  have hval : ∀ (j : Nat) t v, Try.f3.params[j]? = some t → args[j]? = some v → Value.okWide Try.prog W .any base t v := hval0
  have hW' := hW
  obtain ⟨p, q, hA0, hV, rfl, hfz, hnd⟩ := hW
  have hA : DataW.TrodAll enc Try.prog W 0 (fun _ => true) true Try.f3.params.toList args.toList ds p := hA0
  rw [Try.params3] at hA hval
  obtain ⟨v0, vs0, d0, ds0, p0, q0, hargs, rfl, rfl, h0, r0⟩ := trodAll_cons hA
  obtain ⟨v1, vs1, d1, ds1, p1, q1, rfl, rfl, rfl, h1, r1⟩ := trodAll_cons r0
  obtain ⟨v2, vs2, d2, ds2, p2, q2, rfl, rfl, rfl, h2, r2⟩ := trodAll_cons r1
  obtain ⟨rfl, rfl, rfl⟩ := trodAll_nil r2
  obtain rfl : args = #[v0, v1, v2] := by cases args; simp_all
  obtain ⟨rfl, rfl⟩ := trodVars_none hV
  obtain ⟨z1, i1⟩ := arg_ints (hval 1 22 v1 rfl rfl) h1
  obtain ⟨zb2, i2⟩ := op21_arg (hval 2 23 v2 rfl rfl) h2
  obtain ⟨a0, rfl, rfl, rfl, w0⟩ := open_int Try.underlying3 (hval 0 3 v0 rfl rfl) h0
  clear hA0 hval0
  simp only [List.append_nil] at hW'
  have lt1 : ∀ x ∈ p1, x.block < W.heap.size := fun x hx => by have := hW'.lt x (by simp [hx]); simpa using this
  have lt2 : ∀ x ∈ p2, x.block < W.heap.size := fun x hx => by have := hW'.lt x (by simp [hx]); simpa using this
  refine (walk a0 v1 z1 v2 zb2 W w0 i1 i2).mono fun e W' ⟨he, hg⟩ => ?_
  subst he
  exact ⟨_, rfl, post_of_kept (pa := _) (pv := []) hW' (fun _ _ _ => (trodAll_cons_mk (shut_bool Try.underlying4 _) trodAll_mk0)) (trodAll_cons_mk (shut_int Try.underlying3 w0) (trodAll_cons_mk (Below.trod laidOut (by kernel_rfl) (of_decide_eq_true (by kernel_rfl)) h1 hg lt1) (trodAll_cons_mk (Below.trod laidOut (by kernel_rfl) (of_decide_eq_true (by kernel_rfl)) h2 hg lt2) trodAll_mk0))) (fun _ _ => rfl) (by simp) hg⟩

theorem over : Rows.rootsPlaysRow.holds Try.pinned (OpenSpec.ofChange Rows.rootsPlaysSpec) :=
  OpenClaim.holds_of_wide 3 Try.f3 rfl rfl rfl rfl rfl rfl rfl ⟨rfl, rfl, rfl, rfl, rfl⟩ rfl rfl rfl rfl rfl (by kernel_rfl) Try.func3 (by kernel_rfl)
    (of_decide_eq_true (by kernel_rfl)) (by unfold Func.isWrapper; first | (rw [if_pos (by decide +kernel)]; kernel_rfl) | (rw [if_neg (by decide +kernel)]; exact ⟨rfl, rfl⟩))
    (fun os started H enc _ => lifted os started H enc)

theorem proved : Rows.RootsPlaysSaid :=
  over
#print axioms proved
end Go.Proofs.Ytkpmifkdnndccaa.rootsPlays
