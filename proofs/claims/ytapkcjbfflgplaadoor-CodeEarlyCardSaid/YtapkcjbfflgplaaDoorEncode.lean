/- code.Encode, told. -/
import Derived.Test.YtapkcjbfflgplaaDoorEnc
namespace Go.Proofs.YtapkcjbfflgplaaDoor
open Go.RowKit Go.Lib Fx Ho Gr
set_option linter.unusedVariables false
namespace Cd
variable {w w' W wr : World} {v fv : Value} {G nf len n : Int} {fs : List (List Ins)} {zs A : List Int} {l : List Ins}
set_option maxRecDepth 100000 in
set_option maxHeartbeats 4000000 in
theorem encode_any (hT : Tk w) (h : FRow w v fs) (G : Int) : Calls Tryd.prog 59 #[.agg #[.int .i64 G, v]] w (EncR G fs w) := by
  obtain ⟨sp, cap, rfl, hat⟩ := h.fix
  obtain ⟨m, hm⟩ : ∃ m, fs.length = m := ⟨_, rfl⟩
  rw [hm] at hat ⊢
  have hbU : Hid (Below w.heap.size w (w.alloc (.cells #[.int .i64 G, .slice sp m cap] 49))) := Lib.hid (below_alloc (Below.refl _ _) _)
  have hC := heap_alloc_new w (.cells #[.int .i64 G, .slice sp m cap] 49)
  have c0 : (w.alloc (.cells #[.int .i64 G, .slice sp m cap] 49)).cell? ⟨w.heap.size, 0, none⟩ = some (.int .i64 G) := cell_of hC rfl
  have c1 : (w.alloc (.cells #[.int .i64 G, .slice sp m cap] 49)).cell? ⟨w.heap.size, 1, none⟩ = some (.slice sp m cap) := cell_of hC rfl
  have hP : Hid (∀ V, Below (w.alloc (.cells #[.int .i64 G, .slice sp m cap] 49)).heap.size (w.alloc (.cells #[.int .i64 G, .slice sp m cap] 49)) V → V.cell? ⟨w.heap.size, 0, none⟩ = some (.int .i64 G) ∧ V.cell? ⟨w.heap.size, 1, none⟩ = some (.slice sp m cap)) := Lib.hid fun V hb => ⟨cell_then hb c0, cell_then hb c1⟩
  have cc := codemay_any (hT.below hbU.out) (h.below hbU.out) G
  rw [hm] at cc
  have hat2 : Hid (∀ i, i < m → ∃ b off sv cp, sp = some ⟨b, off, none⟩ ∧ ∀ wr, Below w.heap.size w wr → wr.cell? ⟨b, off + i, none⟩ = some (.slice sv (fs.getD i []).length cp) ∧ IRow wr (.slice sv (fs.getD i []).length cp) (fs.getD i [])) := Lib.hid hat
  clear hat h hT hC
  obtain ⟨N, hN⟩ : ∃ N, w.heap.size = N := ⟨_, rfl⟩
  rw [hN] at c0 c1 hP
  replace hm := Lib.hid hm
  go_enter Tryd.func59, Tryd.ntmps59
  go_wp2_with fail
  obtain ⟨U, hU⟩ : ∃ U, w.alloc (.cells #[.int .i64 G, .slice sp m cap] 49) = U := ⟨_, rfl⟩
  rw [hU] at hbU c0 c1 hP cc ⊢
  clear hU
  with_reducible refine Calls.mono cc ?_
  rintro e w3 ⟨r, rfl, hr, hb3⟩
  have hb3U := Lib.hid (hbU.out.trans (hb3.mono hbU.out.size))
  obtain ⟨c0, c1⟩ := hP.out w3 hb3
  clear cc hP hb3 hbU
  by_cases h0 : r = 0
  · subst h0
    have hk := hr
    rcases hk with ⟨_, hk⟩ | ⟨hk, hok, _⟩ | ⟨_, _, _, _, _, _, _, _, hk⟩
    · cases hk
    case inr.inr => omega
    have hr : Hid (MayIs G fs 0) := Lib.hid hr
    have hok := Lib.hid hok
    have m16 : m ≤ 16 := by have := hk.2.1; have := hm.out; omega
    have g0 : 0 ≤ G := hk.2.2.1
    have g1 : G ≤ 255 := by have := hk.2.2.2.1; omega
    have wm : IntKind.u8.wrap (m : Int) = (m : Int) := wu8 (by omega) (by omega)
    have wG : IntKind.u8.wrap G = G := wu8 g0 g1
    have hst : Hid (Eb w (w3.alloc (.cells #[.int .u8 m, .int .u8 G] 5)) (.slice (some ⟨w3.heap.size, 0, none⟩) 2 2) (encP G fs 0)) := Lib.hid (by
      have e : encP G fs 0 = [(m : Int), G] := by unfold encP; rw [hm.out]; rfl
      rw [e]
      exact ⟨grow_blk (zs := [(m : Int), G]) (heap_alloc_new _ _) (by simp), fun k hk => by obtain rfl : w3.heap.size = k := Option.some.inj hk; exact hb3U.out.size, below_alloc hb3U.out _⟩)
    replace hk := Lib.hid hk
    have hm3 : (w3.alloc (.cells #[.int .u8 m, .int .u8 G] 5)).cell? ⟨N, 1, none⟩ = some (.slice sp m cap) := cell_then (below_alloc (Below.refl w3.heap.size w3) _) c1
    clear hb3U
    go_wp2_with fail
    generalize (w3.alloc (.cells #[.int .u8 m, .int .u8 G] 5)) = w4 at *
    generalize (Value.slice (some ⟨w3.heap.size, 0, none⟩) 2 2) = v4 at *
    clear c0 c1
    go_wp2_with fail
    clear hm3
    go_loopw [4, 6, 8, 23] (fun u4 u6 u8 u23 wr => ∃ i : Nat, u23 = .int .i64 i ∧ i ≤ m ∧ Hid (Eb w wr u4 (encP G fs i))) (fun _ _ _ y _ => (m - (RowKit.intOf y).toNat))
    case atStart => exact ⟨0, rfl, by omega, hst⟩
    case round =>
      clear hst
      obtain ⟨i, rfl, im, hE⟩ := hrel
      have i0 : (0 : Int) ≤ (i : Int) := by omega
      by_cases hi : i < m
      · have i1 : (i : Int) < (m : Int) := by omega
        obtain ⟨b, off, sv, cp, rfl, hv⟩ := hat2.out i hi
        have d0 := (hv wr hE.out.low).1
        have hrow0 : Hid (∀ V, Below w.heap.size w V → IRow V (.slice sv (fs.getD i []).length cp) (fs.getD i [])) := Lib.hid fun V hV => (hv V hV).2
        clear hv
        have him : i < fs.length := by have := hm.out; omega
        obtain ⟨l, hl⟩ : ∃ l, (fs.getD i []).length = l := ⟨_, rfl⟩
        have hl64 := (hk.out.2.2.2.2 i him).2
        have hq0 := encQ_len hk.out (i := i) (j := 0) him (Nat.zero_le _)
        have eq0 : encQ G fs i 0 = encP G fs i ++ [(l : Int)] := by unfold encQ; rw [hl]; simp
        rw [eq0] at hq0
        have hnl : (encP G fs i).length + 1 ≤ 1000000 := by rw [List.length_append] at hq0; simp at hq0; omega
        have eqe : Hid (encQ G fs i l = encP G fs (i + 1)) := Lib.hid (by rw [← hl]; exact encQ_all him)
        have hsz : Hid (∀ j, j ≤ l → (encQ G fs i j).length ≤ 4500) := Lib.hid fun j hj => encQ_len hk.out him (by omega)
        rw [hl] at d0 hl64
        have hnx : Hid (∀ j, j < l → encQ G fs i (j + 1) = encQ G fs i j ++ encI ((fs.getD i []).getD j zi)) := Lib.hid fun j hj => encQ_next i (by omega)
        have hby : Hid (∀ j, j < l → ∀ x, (fs.getD i []).getD j zi = x → (0 ≤ x.1 ∧ x.1 ≤ 255) ∧ (0 ≤ x.2.1 ∧ x.2.1 ≤ 255) ∧ (0 ≤ x.2.2.1 ∧ x.2.2.1 ≤ 255) ∧ (0 ≤ x.2.2.2 ∧ x.2.2.2 ≤ 255)) := Lib.hid fun j hj x hx => ok_bytes hk.out him (hok.out i him j (by omega)) hx
        have wl : IntKind.u8.wrap (l : Int) = (l : Int) := wu8 (by omega) (by omega)
        have hbA := below_alloc (Below.refl wr.heap.size wr) (.cells #[.int .u8 l] 5)
        have hG : Hid (GRow 1 (wr.alloc (.cells #[.int .u8 l] 5)) u4 (encP G fs i).length (u8s (encP G fs i))) := Lib.hid (hE.out.row.below hbA)
        have hsrc : Hid (Src Tryd.prog 1 62 (.slice (some ⟨wr.heap.size, 0, none⟩) 1 1) 1 (u8s [(l : Int)]) (wr.alloc (.cells #[.int .u8 l] 5))) := Lib.hid (src_u8 (zs := [(l : Int)]) (heap_alloc_new _ _))
        have key : Hid (∀ v1 w1, GRow 1 w1 v1 ((encP G fs i).length + 1) (u8s (encP G fs i) ++ u8s [(l : Int)]) → Wrote (fun k => u4.ownBlock = some k) (wr.alloc (.cells #[.int .u8 l] 5)) (fun k => v1.ownBlock = some k) w1 → Eb w w1 v1 (encQ G fs i 0)) := Lib.hid fun v1 w1 g1 g2 => by rw [eq0]; exact (hE.out.more (ys := [(l : Int)]) hbA g1 g2).2
        replace hl := Lib.hid hl
        replace eq0 := Lib.hid eq0
        have hE := hE
        clear hbA hq0
        obtain ⟨J, hJ⟩ : ∃ J, wr.heap.size = J := ⟨_, rfl⟩
        obtain ⟨s4, c4, rfl⟩ := hG.out.slice
        rw [hJ] at hsrc
        generalize (encP G fs i).length = n0 at *
        go_wp2_with (at_builtin; refine wpList_append_g rfl (.tmp 27) (.tmp 31) rfl rfl eltU8 hG.out rfl rfl hsrc.out hnl ?_; intro v5 w5 g1 g2; have hst := key.out v5 w5 g1 g2; replace hst := Lib.hid hst; clear key g1 g2 hG hsrc hnl)
        clear hJ
        go_wp2_with fail
        clear d0
        go_loopw [4, 8, 35] (fun u4 u8 u35 wx => ∃ j : Nat, u35 = .int .i64 j ∧ j ≤ l ∧ Hid (Eb w wx u4 (encQ G fs i j))) (fun _ _ y _ => (l - (RowKit.intOf y).toNat))
        case atStart => exact ⟨0, rfl, by omega, hst⟩
        case round =>
          clear hst
          obtain ⟨j, rfl, jl, hE⟩ := hrel
          have j0 : (0 : Int) ≤ (j : Int) := by omega
          by_cases hj : j < l
          · have j1 : (j : Int) < (l : Int) := by omega
            obtain ⟨g, o, op, a, b', c, rfl, hins, d0, d1, d2, d3⟩ := (hrow0.out wr hE.out.low).at_ wr (Below.refl _ _) j (by have := hl.out; omega)
            obtain ⟨⟨p0, p1⟩, ⟨p2, p3⟩, ⟨p4, p5⟩, p6, p7⟩ := hby.out j hj _ hins
            simp only at p0 p1 p2 p3 p4 p5 p6 p7
            have w0 : IntKind.u8.wrap op = op := wu8 p0 p1
            have w1 : IntKind.u8.wrap a = a := wu8 p2 p3
            have w2 : IntKind.u8.wrap b' = b' := wu8 p4 p5
            have w3 : IntKind.u8.wrap c = c := wu8 p6 p7
            have hq := hsz.out (j + 1) hj
            have ej := hnx.out j hj
            rw [hins] at ej
            have ei : encI (op, a, b', c) = [op, a, b', c] := rfl
            rw [ei] at ej
            rw [ej, List.length_append] at hq
            have hnl : (encQ G fs i j).length + 4 ≤ 1000000 := by simp at hq; omega
            have hin := heap_alloc_new wr (.cells #[.int .i64 op, .int .i64 a, .int .i64 b', .int .i64 c] 29)
            have e0 : (wr.alloc (.cells #[.int .i64 op, .int .i64 a, .int .i64 b', .int .i64 c] 29)).cell? ⟨wr.heap.size, 0, none⟩ = some (.int .i64 op) := cell_of hin rfl
            have e1 : (wr.alloc (.cells #[.int .i64 op, .int .i64 a, .int .i64 b', .int .i64 c] 29)).cell? ⟨wr.heap.size, 1, none⟩ = some (.int .i64 a) := cell_of hin rfl
            have e2 : (wr.alloc (.cells #[.int .i64 op, .int .i64 a, .int .i64 b', .int .i64 c] 29)).cell? ⟨wr.heap.size, 2, none⟩ = some (.int .i64 b') := cell_of hin rfl
            have e3 : (wr.alloc (.cells #[.int .i64 op, .int .i64 a, .int .i64 b', .int .i64 c] 29)).cell? ⟨wr.heap.size, 3, none⟩ = some (.int .i64 c) := cell_of hin rfl
            have hbA := below_alloc (below_alloc (Below.refl wr.heap.size wr) (.cells #[.int .i64 op, .int .i64 a, .int .i64 b', .int .i64 c] 29)) (.cells #[.int .u8 op, .int .u8 a, .int .u8 b', .int .u8 c] 5)
            have hG : Hid (GRow 1 ((wr.alloc (.cells #[.int .i64 op, .int .i64 a, .int .i64 b', .int .i64 c] 29)).alloc (.cells #[.int .u8 op, .int .u8 a, .int .u8 b', .int .u8 c] 5)) u4 (encQ G fs i j).length (u8s (encQ G fs i j))) := Lib.hid (hE.out.row.below hbA)
            have s1 : (wr.alloc (.cells #[.int .i64 op, .int .i64 a, .int .i64 b', .int .i64 c] 29)).heap.size = wr.heap.size + 1 := by show (wr.heap.push _).size = _; rw [Array.size_push]
            have hsrc : Hid (Src Tryd.prog 1 62 (.slice (some ⟨wr.heap.size + 1, 0, none⟩) 4 4) 4 (u8s [op, a, b', c]) ((wr.alloc (.cells #[.int .i64 op, .int .i64 a, .int .i64 b', .int .i64 c] 29)).alloc (.cells #[.int .u8 op, .int .u8 a, .int .u8 b', .int .u8 c] 5))) := Lib.hid (src_u8 (zs := [op, a, b', c]) (by rw [← s1]; exact heap_alloc_new _ _))
            have key : Hid (∀ v1 wz, GRow 1 wz v1 ((encQ G fs i j).length + 4) (u8s (encQ G fs i j) ++ u8s [op, a, b', c]) → Wrote (fun k => u4.ownBlock = some k) ((wr.alloc (.cells #[.int .i64 op, .int .i64 a, .int .i64 b', .int .i64 c] 29)).alloc (.cells #[.int .u8 op, .int .u8 a, .int .u8 b', .int .u8 c] 5)) (fun k => v1.ownBlock = some k) wz → Eb w wz v1 (encQ G fs i (j + 1))) := Lib.hid fun v1 wz g1 g2 => by
              rw [ej]
              exact (hE.out.more (ys := [op, a, b', c]) hbA g1 g2).2
            clear hbA hq s1 hin
            obtain ⟨J, hJ⟩ : ∃ J, wr.heap.size = J := ⟨_, rfl⟩
            rw [hJ] at hsrc e0 e1 e2 e3
            obtain ⟨s4, c4, rfl⟩ := hG.out.slice
            generalize (encQ G fs i j).length = n0 at *
            go_wp2_with (at_builtin; refine wpList_append_g rfl (.tmp 39) (.tmp 52) rfl rfl eltU8 hG.out rfl rfl hsrc.out hnl ?_; intro v5 w5 g1 g2; have hst := key.out v5 w5 g1 g2; replace hst := Lib.hid hst; clear key g1 g2 hG hsrc hnl)
            go_roundw
            case rel => exact ⟨j + 1, by go_num, by omega, hst⟩
            case measure => simp [RowKit.intOf]; omega
          · obtain rfl : j = l := by omega
            have j1 : ¬ (j : Int) < (j : Int) := by omega
            have hE2 : Hid (Eb w wr u4 (encP G fs (i + 1))) := Lib.hid (by rw [← eqe.out]; exact hE.out)
            clear hE
            go_wp2_with fail
            go_roundw
            case rel => exact ⟨i + 1, by go_num, by omega, hE2⟩
            case measure => simp [RowKit.intOf]; omega
      · obtain rfl : i = m := by omega
        have i1 : ¬ (i : Int) < (i : Int) := by omega
        have hfin : Hid (EncR G fs w (.returned (.tuple #[u4, .int .i64 0])) wr) := Lib.hid (.inl ⟨hr.out, u4, rfl, by have e := encP_all (G := G) (fs := fs); rw [hm.out] at e; rw [← e]; exact hE.out⟩)
        clear hat2 hE hr hok hk
        go_wp2_with fail
        go_ret2
        exact hfin.out
  · have hfin : Hid (EncR G fs w (.returned (.tuple #[.slice none 0 0, .int .i64 1])) w3) := Lib.hid (.inr ⟨r, hr, h0, rfl, hb3U.out⟩)
    clear hat2 hr hb3U c1
    go_wp2_with fail
    go_ret2
    exact hfin.out
end Cd
end Go.Proofs.YtapkcjbfflgplaaDoor
