/- The document's own Encode. -/
import Derived.Test.YtapkcjbfflgplaaDoorRMay
namespace Go.Proofs.YtapkcjbfflgplaaDoor
open Go.RowKit Go.Lib Fx Ho Gr
set_option linter.unusedVariables false
namespace Cd
variable {w w' W wr : World} {v fv : Value} {G nf len n : Int} {fs : List (List Ins)} {zs A : List Int} {l : List Ins}
theorem mem_at {α : Type} {L : List α} {x : α} (h : x ∈ L) (d : α) : ∃ i, i < L.length ∧ L.getD i d = x := by
  obtain ⟨i, hi, e⟩ := List.mem_iff_getElem.1 h
  exact ⟨i, hi, by rw [List.getD_eq_getElem?_getD, List.getElem?_eq_getElem hi]; exact e⟩
theorem enc_bytes (h : MayIs G fs 0) : ∀ i, i < (enc G fs).length → 0 ≤ (enc G fs).getD i 0 ∧ (enc G fs).getD i 0 < 256 := by
  rcases h with ⟨_, hk⟩ | ⟨hk, hok, _⟩ | ⟨_, _, _, _, _, _, _, _, hk⟩
  · cases hk
  case inr.inr => omega
  have key : ∀ z ∈ enc G fs, 0 ≤ z ∧ z < 256 := fun z hz => by
    unfold enc at hz
    rcases List.mem_cons.1 hz with rfl | hz
    · have := hk.2.1; omega
    · rcases List.mem_cons.1 hz with rfl | hz
      · have := hk.2.2.1; have := hk.2.2.2.1; omega
      · obtain ⟨l, hl, hz⟩ := List.mem_flatMap.1 hz
        obtain ⟨i, hi, el⟩ := mem_at hl []
        unfold encF at hz
        rcases List.mem_cons.1 hz with rfl | hz
        · have := (hk.2.2.2.2 i hi).2; rw [el] at this; omega
        · obtain ⟨x, hx, hz⟩ := List.mem_flatMap.1 hz
          obtain ⟨j, hj, ex⟩ := mem_at hx zi
          have := ok_bytes hk hi (hok i hi j (by rw [el]; exact hj)) (x := x) (by rw [el]; exact ex)
          unfold encI at hz
          simp only [List.mem_cons, List.mem_nil_iff, or_false] at hz
          omega
  intro i hi
  exact key _ (by rw [List.getD_eq_getElem?_getD, List.getElem?_eq_getElem hi]; exact List.getElem_mem hi)
/-- What the document's Encode answers. -/
def REncR (G : Int) (fs : List (List Ins)) (w : World) (e : Ending) (w' : World) : Prop :=
  Below w.heap.size w w' ∧ ((MayIs G fs 0 ∧ e = .returned (.tuple #[.string (byts (enc G fs)), .int .i64 0])) ∨ (∃ r, MayIs G fs r ∧ r ≠ 0 ∧ e = .returned (.tuple #[.string ⟨#[]⟩, .int .i64 1])))
set_option maxRecDepth 100000 in
set_option maxHeartbeats 4000000 in
theorem refencode_any (h : FRow w v fs) (G : Int) : Calls Tryd.prog 40 #[.agg #[.int .i64 G, v]] w (REncR G fs w) := by
  obtain ⟨sp, cap, rfl, hat⟩ := h.fix
  obtain ⟨m, hm⟩ : ∃ m, fs.length = m := ⟨_, rfl⟩
  rw [hm] at hat ⊢
  have hbU : Hid (Below w.heap.size w (w.alloc (.cells #[.int .i64 G, .slice sp m cap] 49))) := Lib.hid (below_alloc (Below.refl _ _) _)
  have hC := heap_alloc_new w (.cells #[.int .i64 G, .slice sp m cap] 49)
  have c0 : (w.alloc (.cells #[.int .i64 G, .slice sp m cap] 49)).cell? ⟨w.heap.size, 0, none⟩ = some (.int .i64 G) := cell_of hC rfl
  have c1 : (w.alloc (.cells #[.int .i64 G, .slice sp m cap] 49)).cell? ⟨w.heap.size, 1, none⟩ = some (.slice sp m cap) := cell_of hC rfl
  have hP : Hid (∀ V, Below (w.alloc (.cells #[.int .i64 G, .slice sp m cap] 49)).heap.size (w.alloc (.cells #[.int .i64 G, .slice sp m cap] 49)) V → V.cell? ⟨w.heap.size, 0, none⟩ = some (.int .i64 G) ∧ V.cell? ⟨w.heap.size, 1, none⟩ = some (.slice sp m cap)) := Lib.hid fun V hb => ⟨cell_then hb c0, cell_then hb c1⟩
  have cc := refmay_any (h.below hbU.out) G
  rw [hm] at cc
  have hat2 : Hid (∀ i, i < m → ∃ b off sv cp, sp = some ⟨b, off, none⟩ ∧ ∀ wr, Below w.heap.size w wr → wr.cell? ⟨b, off + i, none⟩ = some (.slice sv (fs.getD i []).length cp) ∧ IRow wr (.slice sv (fs.getD i []).length cp) (fs.getD i [])) := Lib.hid hat
  clear hat h hC
  obtain ⟨N, hN⟩ : ∃ N, w.heap.size = N := ⟨_, rfl⟩
  rw [hN] at c0 c1 hP
  replace hm := Lib.hid hm
  go_enter Tryd.func40, Tryd.ntmps40
  go_wp2_with fail
  obtain ⟨U, hU⟩ : ∃ U, w.alloc (.cells #[.int .i64 G, .slice sp m cap] 49) = U := ⟨_, rfl⟩
  rw [hU] at hbU c0 c1 hP cc ⊢
  clear hU
  with_reducible refine Calls.mono cc ?_
  rintro e w3 ⟨r, rfl, hr, hb3⟩
  have hb3U := Lib.hid (hbU.out.trans (hb3.mono hbU.out.size))
  obtain ⟨c0, c1⟩ := hP.out w3 hb3
  have hP3 : Hid (∀ V, Below w3.heap.size w3 V → V.cell? ⟨N, 1, none⟩ = some (.slice sp m cap)) := Lib.hid fun V hV => cell_then hV c1
  clear cc hP hb3 hbU
  by_cases h0 : r = 0
  · subst h0
    have hk := hr
    rcases hk with ⟨_, hk⟩ | ⟨hk, hok, _⟩ | ⟨_, _, _, _, _, _, _, _, hk⟩
    · cases hk
    case inr.inr => omega
    have hr : Hid (MayIs G fs 0) := Lib.hid hr
    have hok := Lib.hid hok
    have m16 : m ≤ 16 := by have := hk.2.1; have := hm.out; omega
    have g0 : 0 ≤ G := hk.2.2.1
    have g1 : G ≤ 255 := by have := hk.2.2.2.1; omega
    have wm : IntKind.u8.wrap (m : Int) = (m : Int) := wu8 (by omega) (by omega)
    have wG : IntKind.u8.wrap G = G := wu8 g0 g1
    have hb3w := Lib.hid hb3U.out
    have hst : Hid (Eb w3 (w3.alloc (.cells #[.int .u8 m, .int .u8 G] 5)) (.slice (some ⟨w3.heap.size, 0, none⟩) 2 2) (encP G fs 0)) := Lib.hid (by
      have e : encP G fs 0 = [(m : Int), G] := by unfold encP; rw [hm.out]; rfl
      rw [e]
      exact ⟨grow_blk (zs := [(m : Int), G]) (heap_alloc_new _ _) (by simp), fun k hk => by obtain rfl : w3.heap.size = k := Option.some.inj hk; exact Nat.le_refl _, below_alloc (Below.refl _ _) _⟩)
    replace hk := Lib.hid hk
    have hm3 : (w3.alloc (.cells #[.int .u8 m, .int .u8 G] 5)).cell? ⟨N, 1, none⟩ = some (.slice sp m cap) := cell_then (below_alloc (Below.refl w3.heap.size w3) _) c1
    clear hb3U
    go_wp2_with fail
    generalize (w3.alloc (.cells #[.int .u8 m, .int .u8 G] 5)) = w4 at *
    generalize (Value.slice (some ⟨w3.heap.size, 0, none⟩) 2 2) = v4 at *
    clear c0 c1
    go_wp2_with fail
    clear hm3
    go_loopw [4, 5, 6, 7] (fun u4 u5 u6 u7 wr => ∃ i : Nat, u5 = .int .i64 i ∧ i ≤ m ∧ Hid (Eb w3 wr u4 (encP G fs i))) (fun _ y _ _ _ => (m - (RowKit.intOf y).toNat))
    case atStart => exact ⟨0, rfl, by omega, hst⟩
    case round =>
      clear hst
      obtain ⟨i, rfl, im, hE⟩ := hrel
      have i0 : (0 : Int) ≤ (i : Int) := by omega
      by_cases hi : i < m
      · have i1 : (i : Int) < (m : Int) := by omega
        obtain ⟨b, off, sv, cp, rfl, hv⟩ := hat2.out i hi
        have d0 := (hv wr (hb3w.out.trans (hE.out.low.mono hb3w.out.size))).1
        have hrow0 : Hid (∀ V, Below w3.heap.size w3 V → V.cell? ⟨N, 1, none⟩ = some (.slice (some ⟨b, off, none⟩) m cap) ∧ V.cell? ⟨b, off + i, none⟩ = some (.slice sv (fs.getD i []).length cp) ∧ IRow V (.slice sv (fs.getD i []).length cp) (fs.getD i [])) := Lib.hid fun V hV => ⟨hP3.out V hV, hv V (hb3w.out.trans (hV.mono hb3w.out.size))⟩
        clear hv
        have p1 := hP3.out wr hE.out.low
        have him : i < fs.length := by have := hm.out; omega
        obtain ⟨l, hl⟩ : ∃ l, (fs.getD i []).length = l := ⟨_, rfl⟩
        have hl64 := (hk.out.2.2.2.2 i him).2
        have hq0 := encQ_len hk.out (i := i) (j := 0) him (Nat.zero_le _)
        have eq0 : encQ G fs i 0 = encP G fs i ++ [(l : Int)] := by unfold encQ; rw [hl]; simp
        rw [eq0] at hq0
        have hnl : (encP G fs i).length + 1 ≤ 1000000 := by rw [List.length_append] at hq0; simp at hq0; omega
        have eqe : Hid (encQ G fs i l = encP G fs (i + 1)) := Lib.hid (by rw [← hl]; exact encQ_all him)
        have hsz : Hid (∀ j, j ≤ l → (encQ G fs i j).length ≤ 4500) := Lib.hid fun j hj => encQ_len hk.out him (by omega)
        rw [hl] at d0 hl64
        have hnx : Hid (∀ j, j < l → encQ G fs i (j + 1) = encQ G fs i j ++ encI ((fs.getD i []).getD j zi)) := Lib.hid fun j hj => encQ_next i (by omega)
        have hby : Hid (∀ j, j < l → ∀ x, (fs.getD i []).getD j zi = x → (0 ≤ x.1 ∧ x.1 ≤ 255) ∧ (0 ≤ x.2.1 ∧ x.2.1 ≤ 255) ∧ (0 ≤ x.2.2.1 ∧ x.2.2.1 ≤ 255) ∧ (0 ≤ x.2.2.2 ∧ x.2.2.2 ≤ 255)) := Lib.hid fun j hj x hx => ok_bytes hk.out him (hok.out i him j (by omega)) hx
        have wl : IntKind.u8.wrap (l : Int) = (l : Int) := wu8 (by omega) (by omega)
        have hbA := below_alloc (Below.refl wr.heap.size wr) (.cells #[.int .u8 l] 5)
        have hG : Hid (GRow 1 (wr.alloc (.cells #[.int .u8 l] 5)) u4 (encP G fs i).length (u8s (encP G fs i))) := Lib.hid (hE.out.row.below hbA)
        have hsrc : Hid (Src Tryd.prog 1 62 (.slice (some ⟨wr.heap.size, 0, none⟩) 1 1) 1 (u8s [(l : Int)]) (wr.alloc (.cells #[.int .u8 l] 5))) := Lib.hid (src_u8 (zs := [(l : Int)]) (heap_alloc_new _ _))
        have key : Hid (∀ v1 w1, GRow 1 w1 v1 ((encP G fs i).length + 1) (u8s (encP G fs i) ++ u8s [(l : Int)]) → Wrote (fun k => u4.ownBlock = some k) (wr.alloc (.cells #[.int .u8 l] 5)) (fun k => v1.ownBlock = some k) w1 → Eb w3 w1 v1 (encQ G fs i 0)) := Lib.hid fun v1 w1 g1 g2 => by rw [eq0]; exact (hE.out.more (ys := [(l : Int)]) hbA g1 g2).2
        replace hl := Lib.hid hl
        replace eq0 := Lib.hid eq0
        have hE := hE
        clear hbA hq0
        obtain ⟨J, hJ⟩ : ∃ J, wr.heap.size = J := ⟨_, rfl⟩
        obtain ⟨s4, c4, rfl⟩ := hG.out.slice
        rw [hJ] at hsrc
        generalize (encP G fs i).length = n0 at *
        go_wp2_with (at_builtin; refine wpList_append_g rfl (.tmp 26) (.tmp 34) rfl rfl eltU8 hG.out rfl rfl hsrc.out hnl ?_; intro v5 w5 g1 g2; have hst := key.out v5 w5 g1 g2; replace hst := Lib.hid hst; clear key g1 g2 hG hsrc hnl)
        clear hJ
        go_wp2_with fail
        clear d0 p1
        go_loopw [4, 6, 7] (fun u4 u6 u7 wx => ∃ j : Nat, u6 = .int .i64 j ∧ j ≤ l ∧ Hid (Eb w3 wx u4 (encQ G fs i j))) (fun _ y _ _ => (l - (RowKit.intOf y).toNat))
        case atStart => exact ⟨0, rfl, by omega, hst⟩
        case round =>
          clear hst
          obtain ⟨j, rfl, jl, hE⟩ := hrel
          have j0 : (0 : Int) ≤ (j : Int) := by omega
          obtain ⟨p1, df, hrw⟩ := hrow0.out wr hE.out.low
          rw [hl.out] at df
          by_cases hj : j < l
          · have j1 : (j : Int) < (l : Int) := by omega
            obtain ⟨g, o, op, a, b', c, rfl, hins, d0, d1, d2, d3⟩ := hrw.at_ wr (Below.refl _ _) j (by have := hl.out; omega)
            obtain ⟨⟨b0, b1⟩, ⟨b2, b3⟩, ⟨b4, b5⟩, b6, b7⟩ := hby.out j hj _ hins
            simp only at b0 b1 b2 b3 b4 b5 b6 b7
            have x0 : IntKind.u8.wrap op = op := wu8 b0 b1
            have x1 : IntKind.u8.wrap a = a := wu8 b2 b3
            have x2 : IntKind.u8.wrap b' = b' := wu8 b4 b5
            have x3 : IntKind.u8.wrap c = c := wu8 b6 b7
            have hq := hsz.out (j + 1) hj
            have ej := hnx.out j hj
            rw [hins] at ej
            have ei : encI (op, a, b', c) = [op, a, b', c] := rfl
            rw [ei] at ej
            rw [ej, List.length_append] at hq
            have hnl : (encQ G fs i j).length + 4 ≤ 1000000 := by simp at hq; omega
            have hin := heap_alloc_new wr (.cells #[.int .i64 op, .int .i64 a, .int .i64 b', .int .i64 c] 29)
            have e0 : (wr.alloc (.cells #[.int .i64 op, .int .i64 a, .int .i64 b', .int .i64 c] 29)).cell? ⟨wr.heap.size, 0, none⟩ = some (.int .i64 op) := cell_of hin rfl
            have e1 : (wr.alloc (.cells #[.int .i64 op, .int .i64 a, .int .i64 b', .int .i64 c] 29)).cell? ⟨wr.heap.size, 1, none⟩ = some (.int .i64 a) := cell_of hin rfl
            have e2 : (wr.alloc (.cells #[.int .i64 op, .int .i64 a, .int .i64 b', .int .i64 c] 29)).cell? ⟨wr.heap.size, 2, none⟩ = some (.int .i64 b') := cell_of hin rfl
            have e3 : (wr.alloc (.cells #[.int .i64 op, .int .i64 a, .int .i64 b', .int .i64 c] 29)).cell? ⟨wr.heap.size, 3, none⟩ = some (.int .i64 c) := cell_of hin rfl
            have hbA := below_alloc (below_alloc (Below.refl wr.heap.size wr) (.cells #[.int .i64 op, .int .i64 a, .int .i64 b', .int .i64 c] 29)) (.cells #[.int .u8 op, .int .u8 a, .int .u8 b', .int .u8 c] 5)
            have hG : Hid (GRow 1 ((wr.alloc (.cells #[.int .i64 op, .int .i64 a, .int .i64 b', .int .i64 c] 29)).alloc (.cells #[.int .u8 op, .int .u8 a, .int .u8 b', .int .u8 c] 5)) u4 (encQ G fs i j).length (u8s (encQ G fs i j))) := Lib.hid (hE.out.row.below hbA)
            have s1 : (wr.alloc (.cells #[.int .i64 op, .int .i64 a, .int .i64 b', .int .i64 c] 29)).heap.size = wr.heap.size + 1 := by show (wr.heap.push _).size = _; rw [Array.size_push]
            have hsrc : Hid (Src Tryd.prog 1 62 (.slice (some ⟨wr.heap.size + 1, 0, none⟩) 4 4) 4 (u8s [op, a, b', c]) ((wr.alloc (.cells #[.int .i64 op, .int .i64 a, .int .i64 b', .int .i64 c] 29)).alloc (.cells #[.int .u8 op, .int .u8 a, .int .u8 b', .int .u8 c] 5))) := Lib.hid (src_u8 (zs := [op, a, b', c]) (by rw [← s1]; exact heap_alloc_new _ _))
            have key : Hid (∀ v1 wz, GRow 1 wz v1 ((encQ G fs i j).length + 4) (u8s (encQ G fs i j) ++ u8s [op, a, b', c]) → Wrote (fun k => u4.ownBlock = some k) ((wr.alloc (.cells #[.int .i64 op, .int .i64 a, .int .i64 b', .int .i64 c] 29)).alloc (.cells #[.int .u8 op, .int .u8 a, .int .u8 b', .int .u8 c] 5)) (fun k => v1.ownBlock = some k) wz → Eb w3 wz v1 (encQ G fs i (j + 1))) := Lib.hid fun v1 wz g1 g2 => by
              rw [ej]
              exact (hE.out.more (ys := [op, a, b', c]) hbA g1 g2).2
            clear hbA hq s1 hin
            obtain ⟨J, hJ⟩ : ∃ J, wr.heap.size = J := ⟨_, rfl⟩
            rw [hJ] at hsrc e0 e1 e2 e3
            obtain ⟨s4, c4, rfl⟩ := hG.out.slice
            generalize (encQ G fs i j).length = n0 at *
            go_wp2_with (at_builtin; refine wpList_append_g rfl (.tmp 54) (.tmp 67) rfl rfl eltU8 hG.out rfl rfl hsrc.out hnl ?_; intro v5 w5 g1 g2; have hst := key.out v5 w5 g1 g2; replace hst := Lib.hid hst; clear key g1 g2 hG hsrc hnl)
            go_roundw
            case rel => exact ⟨j + 1, by go_num, by omega, hst⟩
            case measure => simp [RowKit.intOf]; omega
          · obtain rfl : j = l := by omega
            have j1 : ¬ (j : Int) < (j : Int) := by omega
            have hE2 : Hid (Eb w3 wr u4 (encP G fs (i + 1))) := Lib.hid (by rw [← eqe.out]; exact hE.out)
            clear hE
            go_wp2_with fail
            go_roundw
            case rel => exact ⟨i + 1, by go_num, by omega, hE2⟩
            case measure => simp [RowKit.intOf]; omega
      · obtain rfl : i = m := by omega
        have i1 : ¬ (i : Int) < (i : Int) := by omega
        have hfin : Hid (REncR G fs w (.returned (.tuple #[.string (byts (enc G fs)), .int .i64 0])) wr) := Lib.hid ⟨hb3w.out.trans (hE.out.low.mono hb3w.out.size), .inl ⟨hr.out, rfl⟩⟩
        have p1 := hP3.out wr hE.out.low
        have hcv : (convert 62 9 u4).run Tryd.prog wr = .ok (.string (byts (enc G fs))) wr := by
          have e := encP_all (G := G) (fs := fs)
          rw [hm.out] at e
          rw [← e]
          refine grow_str hE.out.row (by unfold encP; simp) ?_
          rw [e]
          exact enc_bytes hr.out
        obtain ⟨s4, c4, rfl⟩ := hE.out.row.slice
        clear hat2 hE hr hok hk
        generalize byts (enc G fs) = bb at *
        go_wp2_with fail
        go_ret2
        exact hfin.out
  · have hfin : Hid (REncR G fs w (.returned (.tuple #[.string ⟨#[]⟩, .int .i64 1])) w3) := Lib.hid ⟨hb3U.out, .inr ⟨r, hr, h0, rfl⟩⟩
    clear hat2 hr hb3U c1
    go_wp2_with fail
    go_ret2
    exact hfin.out
end Cd
end Go.Proofs.YtapkcjbfflgplaaDoor
