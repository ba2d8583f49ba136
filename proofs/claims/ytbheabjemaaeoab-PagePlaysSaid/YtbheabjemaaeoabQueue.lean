/- Goroutines in common as they lie in memory: a row that may begin in the midst of its block; what the reading calls of package queue answer, and the library's Clone and Index. -/
import Derived.Test.YtbheabjemaaeoabHome
import Derived.Deep.Upon
namespace Go.Proofs.Ytbheabjemaaeoab
open Go.RowKit Go.Lib Fx Ho
set_option linter.unusedVariables false
namespace Qu

/-- The slice v holds the numbers zs, somewhere in a block of its own, its room within it. -/
def OffRow (w : World) (v : Value) (zs : List Int) : Prop :=
  ∃ ao b off cap, v = .slice ao zs.length cap ∧ Came w 1 ao b off zs.length cap (cells zs) ∧ (cap ≤ maxLen ∧ ∀ j, j < cap → w.frozen? ⟨b, off + j, none⟩ = false) ∧ (ao = some ⟨b, off, none⟩ ∧ b < w.heap.size ∨ ao = none ∧ cap = 0)
def home (p : Nat) (v : Value) : Home := fun k => k = p ∨ v.ownBlock = some k
variable {w w' : World} {p : Nat} {v : Value} {zs : List Int} {H H' : Home}
theorem offrow_nil (w : World) : OffRow w (.slice none 0 0) [] := ⟨none, 0, 0, 0, rfl, ⟨by decide, fun h => (by omega), fun h => (by omega), rfl, fun j u h => (by simp [cells] at h), fun j h => (by omega)⟩, ⟨by decide, fun j h => by omega⟩, .inr ⟨rfl, rfl⟩⟩
theorem OffRow.wrote (h : OffRow w v zs) (ht : Wrote H w H' w') (ho : ∀ k, v.ownBlock = some k → ¬ H k) : OffRow w' v zs := by
  obtain ⟨ao, b, off, cap, rfl, hc, hm, hxx⟩ := h
  have hb : 0 < cap → w'.heap[b]? = w.heap[b]? := fun h0 => by
    have ha := hc.addr h0
    subst ha
    exact ht.block b (hc.lt h0) (ho b rfl)
  refine ⟨ao, b, off, cap, rfl, ⟨hc.le, hc.addr, fun h0 => Nat.lt_of_lt_of_le (hc.lt h0) ht.size, hc.oldsLen, fun j u hj => ?_, fun j hj => ?_⟩, ⟨hm.1, fun j hj => by rw [World.frozen?_of_block (a := ⟨b, off + j, none⟩) (hb (by omega))]; exact hm.2 j hj⟩, hxx.imp (fun e => ⟨e.1, Nat.lt_of_lt_of_le e.2 ht.size⟩) id⟩
  · have hl := (List.getElem?_eq_some_iff.1 hj).1
    rw [hc.oldsLen] at hl
    have hle := hc.le
    rw [World.cell?_of_block (a := ⟨b, off + j, none⟩) (hb (by omega))]
    exact hc.olds j u hj
  · have h0 : 0 < cap := by omega
    rw [World.cell?_of_block (a := ⟨b, off + zs.length * 1 + j, none⟩) (hb h0), World.frozen?_of_block (a := ⟨b, off + zs.length * 1 + j, none⟩) (hb h0)]
    exact hc.spare j hj
theorem OffRow.cell (h : OffRow w v zs) : ∃ ao b off cap, v = .slice ao zs.length cap ∧ zs.length ≤ cap ∧ cap ≤ maxLen ∧ (0 < cap → ao = some ⟨b, off, none⟩ ∧ b < w.heap.size) ∧ ∀ i, i < zs.length → w.cell? ⟨b, off + i, none⟩ = some (.int .i64 (zs.getD i 0)) := by
  obtain ⟨ao, b, off, cap, rfl, hc, hm, hxx⟩ := h
  refine ⟨ao, b, off, cap, rfl, hc.le, hm.1, fun h0 => ⟨hc.addr h0, hc.lt h0⟩, fun i hi => hc.olds i _ ?_⟩
  unfold cells
  rw [List.getElem?_map, List.getD_eq_getElem?_getD, List.getElem?_eq_getElem hi]; rfl
theorem OffRow.ints (h : OffRow w v zs) : Ints w (fun k => v.ownBlock = some k) v zs := by
  obtain ⟨ao, b, off, cap, rfl, hle, hm, ha, hcell⟩ := h.cell
  refine ⟨_, cap, rfl, by unfold maxLen at hm; omega, fun i hi => ?_⟩
  obtain ⟨rfl, hb⟩ := ha (by omega)
  exact ⟨b, off, rfl, rfl, hb, hcell i hi⟩
theorem OffRow.lt {k : Nat} (h : OffRow w v zs) (hk : v.ownBlock = some k) : k < w.heap.size := by
  obtain ⟨ao, b, off, cap, rfl, hc, hm, hxx⟩ := h
  rcases hxx with ⟨rfl, hb⟩ | ⟨rfl, _⟩
  · obtain rfl : b = k := Option.some.inj hk
    exact hb
  · cases hk
theorem OffRow.slice (h : OffRow w v zs) : ∃ sp cap, v = .slice sp zs.length cap := by
  obtain ⟨ao, b, off, cap, rfl, _⟩ := h
  exact ⟨_, _, rfl⟩
theorem tape_setCells (b : Nat) : ∀ (vs : List Value) (o : Nat) (w : World), (w.setCells b o vs).tape = w.tape
  | [], _, _ => rfl
  | v :: r, o, w => by rw [World.setCells, tape_setCells b r]; simp
/-- n numbers more at the end of a row that may begin in the midst of its block. -/
theorem append_off (h : OffRow w v zs) (x : Value) (ys : List Int) (hs : Src Try.prog 1 36 x ys.length (cells ys) w) (hn : zs.length + ys.length ≤ 1000000) :
    ∃ v' w', (Builtin.append_ #[36, 36] 36 #[v, x]).run Try.prog w = .ok v' w' ∧ OffRow w' v' (zs ++ ys) ∧ Wrote (fun k => v.ownBlock = some k) w (fun k => v'.ownBlock = some k) w' := by
  obtain ⟨i0, hi, hz0, hz1, hz2⟩ := info_parts infoI
  obtain ⟨ao, b, off, cap, rfl, hc, hm, hxx⟩ := h
  have hmx : (1000000 : Nat) ≤ maxLen := by unfold maxLen; omega
  obtain ⟨v', w', hr, hu⟩ := run_append_upon (P := Try.prog) hc 36 36 36 i0 (.int .i64 0) 8 Try.underlying36 hi hz0 hz1 hz2 rfl (Upon.start (e := 3) hc) x ys.length (cells ys) hs (by omega) (by omega)
  have htape : w'.tape = w.tape := by
    by_cases hfit : zs.length + ys.length ≤ cap
    · rcases Nat.eq_zero_or_pos cap with h0 | hcap
      · have h1 : ys.length = 0 := by omega
        have h2 : ys = [] := List.eq_nil_of_length_eq_zero h1
        subst h2
        have := run_append_nothing (P := Try.prog) w 36 36 36 3 i0 Try.underlying36 hi ao zs.length cap hc.le x (by rw [hz1]; exact hs)
        rw [this] at hr
        cases hr; rfl
      · have ha := hc.addr hcap
        subst ha
        have := run_append_room_src (P := Try.prog) w 36 36 36 3 i0 Try.underlying36 hi b off zs.length cap x ys.length (cells ys) (by rw [hz1]; exact hs) hfit
          (fun j hj => by rw [hz1]; rw [cells_len] at hj; exact (hc.spare j (by omega)).1) (fun j hj => by rw [hz1]; rw [cells_len] at hj; exact (hc.spare j (by omega)).2)
        rw [this] at hr
        cases hr
        exact tape_setCells _ _ _ _
    · have := run_append_grow_src (P := Try.prog) w 36 36 36 3 i0 (.int .i64 0) Try.underlying36 hi hz0 ao zs.length cap (cells zs) (by
          rw [hz1]
          rcases Nat.eq_zero_or_pos cap with h0 | hcap
          · have h1 : zs.length = 0 := by have := hc.le; omega
            have h2 : zs = [] := List.eq_nil_of_length_eq_zero h1
            subst h2
            cases ao with
            | none => exact run_firstCells_none w.drew 1 0 0 cap
            | some a' => exact run_firstCells_some w.drew 1 0 a' 0 cap [] (by simp) (by intro _ _ h'; simp at h')
          · rw [hc.addr hcap]
            refine run_firstCells_some w.drew 1 zs.length ⟨b, off, none⟩ zs.length cap (cells zs) hc.oldsLen (fun j u hj => ?_)
            rw [addr_add]
            exact hc.olds j u hj) x ys.length (cells ys) (by rw [hz1]; exact hs) (by omega) (by omega) (growslice_fits (by omega) (by rw [hz2]; omega))
      rw [this] at hr
      cases hr; rfl
  have hsz := hu.kept.size
  have hlen : (zs ++ ys).length = zs.length + (0 + ys.length) := by rw [List.length_append]; omega
  have hcl : (cells zs ++ ([] ++ cells ys)) = cells (zs ++ ys) := by rw [cells_app]; rfl
  have hcn : (cells (zs ++ ys)).length = zs.length + ys.length := by rw [cells_len, List.length_append]
  refine ⟨v', w', hr, ?_, ⟨hu.kept.1, htape, hu.kept.2.1, hsz, fun k hk hno => ?_, fun k hk => ?_⟩⟩
  · rcases hu.val with ⟨hle, rfl, hq⟩ | ⟨hgt, g, c', rfl, ho⟩
    · refine ⟨ao, b, off, cap, by rw [hlen], ⟨by omega, hc.addr, fun h0 => Nat.lt_of_lt_of_le (hc.lt h0) hsz, by omega, fun j u hj => ?_, fun j hj => ?_⟩, ⟨hm.1, fun j hj => (hu.frozen ⟨b, off + j, none⟩ (hc.lt (by omega))).trans (hm.2 j hj)⟩, hxx.imp (fun e => ⟨e.1, Nat.lt_of_lt_of_le e.2 hsz⟩) id⟩
      · have hl := (List.getElem?_eq_some_iff.1 hj).1
        rw [hu.inArray hc (by omega) hq j (by omega), hcl]
        exact hj
      · have h0 : 0 < cap := by omega
        have e1 : off + (zs ++ ys).length * 1 + j = off + zs.length * 1 + (ys.length + j) := by omega
        rw [e1, hu.old (hc.lt h0) (fun j' h1 ⟨_, h2⟩ => by rw [hq] at h1; simp only [List.nil_append, cells_len] at h1; omega), hu.frozen ⟨b, _, none⟩ (hc.lt h0)]
        exact hc.spare _ (by omega)
    · refine ⟨some ⟨g, 0, none⟩, g, 0, c', by rw [hlen], ⟨by have := ho.le; omega, fun _ => rfl, fun h0 => ?_, by omega, fun j u hj => ?_, fun j hj => ?_⟩, ⟨ho.max, fun j hj => by rw [Nat.zero_add]; exact (ho.there j (by omega)).2⟩, .inl ⟨rfl, World.block_lt_of_cell? _ _ (Option.isSome_iff_exists.1 (ho.there 0 (by have := ho.le; omega)).1).choose_spec⟩⟩
      · exact World.block_lt_of_cell? _ _ (Option.isSome_iff_exists.1 (ho.there 0 (by omega)).1).choose_spec
      · have hl := (List.getElem?_eq_some_iff.1 hj).1
        rw [Nat.zero_add, ho.holds j (by omega), hcl]
        exact hj
      · have := ho.there ((zs ++ ys).length + j) (by omega)
        rw [show 0 + (zs ++ ys).length * 1 + j = (zs ++ ys).length + j by omega]
        exact this
  · refine hu.kept.block hk (fun p hp e => ?_)
    obtain ⟨j, hj, rfl⟩ := hp
    obtain rfl : b = k := e
    exact hno (by rw [hc.addr (hu.capPos hj)]; rfl)
  · rcases hu.val with ⟨hle, rfl, hr⟩ | ⟨hgt, g, c', rfl, ho⟩
    · exact Or.inl (by cases ao <;> exact hk)
    · exact Or.inr (by obtain rfl : g = k := Option.some.inj hk; exact ho.new)
namespace IsQ
end IsQ
theorem own_empty {W : World} {lo N : Nat} (h : W.heap[N]? = some (.cells #[] 3 (0, 0))) (hN : lo ≤ N) : W.ownsRow lo 3 1 (.slice (some ⟨N, 0, none⟩) 0 0) 0 [] :=
  ⟨rfl, Or.inr ⟨N, 0, #[], rfl, hN, h, Nat.le_refl _, by unfold maxLen; omega, rfl, rfl⟩⟩
theorem src_of_ints {S : Home} {x : Value} {ys : List Int} (h : Ints w S x ys) : Src Try.prog 1 36 x ys.length (cells ys) w := by
  obtain ⟨sp, cap, rfl, _, hi⟩ := h
  cases ys with
  | nil =>
    cases sp with
    | none => exact Src.ofNil w Try.underlying36 cap
    | some a => exact Src.ofSlice w Try.underlying36 a 0 cap [] rfl (fun j u hj => by simp at hj) (fun u hu => by simp at hu)
  | cons y r =>
    obtain ⟨b, off, rfl, _, _, _⟩ := hi 0 (by simp)
    refine Src.ofSlice w Try.underlying36 ⟨b, off, none⟩ _ cap _ (by rw [cells_len]; omega) (fun j u hj => ?_) (cells_one _)
    have hl := (List.getElem?_eq_some_iff.1 hj).1
    rw [cells_len] at hl
    obtain ⟨b2, off2, e, _, _, hc⟩ := hi j hl
    cases e
    rw [addr_add, hc, ← hj]
    unfold cells
    rw [List.getElem?_map, List.getD_eq_getElem?_getD, List.getElem?_eq_getElem hl]; rfl
theorem wpList_append_off {ops : Array Oper} {rest : List Oper} {o : Oper} {a : Act} {Q : Exit → Act → World → Prop} (hgd : o.guard = none) (s x : Operand)
    (ho : o.op = .call { callee := .builtin .append, args := #[s, x], argTypes := #[36, 36] }) (hty : o.type = 36) {v xv : Value} {zs ys : List Int} (h : OffRow w v zs) (hv : a.eval s = v) (hx : a.eval x = xv)
    (hs : Src Try.prog 1 36 xv ys.length (cells ys) w) (hn : zs.length + ys.length ≤ 1000000)
    (hK : ∀ v' w', OffRow w' v' (zs ++ ys) → Wrote (fun k => v.ownBlock = some k) w (fun k => v'.ownBlock = some k) w' → wpList Try.prog ops Q rest (a.put o.dst v') w') : wpList Try.prog ops Q (o :: rest) a w := by
  refine wpList_plain hgd fun K hK' => ?_
  obtain ⟨v', w', hr, h1, h2⟩ := append_off h xv ys hs hn
  unfold Oper.wp
  simp [execOp, ho, resolve, invoke, builtin, hv, hx, hty, hr, Result.andThen]
  exact hK' _ _ (hK v' w' h1 h2)
end Qu
end Go.Proofs.Ytbheabjemaaeoab
