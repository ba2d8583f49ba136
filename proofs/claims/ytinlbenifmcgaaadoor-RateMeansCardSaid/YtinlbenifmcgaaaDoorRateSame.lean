/- The document's own order of floats, its test whether two are the same, the lesser of two. -/
import Derived.Test.YtinlbenifmcgaaaDoorRateFl
namespace Go.Proofs.YtinlbenifmcgaaaDoor
open Go.RowKit Go.Lib Fx Ho Gr
set_option linter.unusedVariables false
namespace Pr
open Fk Fl Ieee
variable {w w' : World} {x y r : Nat} {v : Value} {zs : List Nat}
def c1 : Nat := 4607182418800017408
theorem read_c1 : double.read c1 = .number false 4503599627370496 (-52) := by decide
theorem read_c0 : double.read 0 = .number false 0 (-1074) := by decide
/-- x is a zero of the sign s. -/
def Zero (x : Nat) (s : Bool) : Prop := ∃ i, double.read x = .number s 0 i
def inf (s : Bool) : Nat := if s then 18442240474082181120 else 9218868437227405312
theorem read_inf (s : Bool) : double.read (inf s) = .infinity s := by cases s <;> decide
theorem div_zero {s : Bool} (h : Zero x s) : floatBits .quo .f64 c1 x = some (inf s) := by
  obtain ⟨i, hx⟩ := h
  show Option.map _ ((double.read c1).quotient _ (double.read x)) = _
  rw [hx, read_c1]
  show some (double.write (.infinity (false ^^ s))) = _
  cases s <;> decide
theorem key_zero {s : Bool} (h : Zero x s) : key x = if s then 0 else 1 := by
  obtain ⟨i, hx⟩ := h
  unfold key
  rw [hx]
  show 2 * val s 0 i + _ = _
  rw [val_zero]
  cases s <;> simp
theorem ord_zero {s t : Bool} (hx : Zero x s) (hy : Zero y t) : FloatKind.f64.format.order x y = some .eq := by
  obtain ⟨i, hx⟩ := hx
  obtain ⟨j, hy⟩ := hy
  show double.order x y = _
  rw [order_val hx hy, val_zero, val_zero, compare_eq rfl]
theorem zero_c0 : Zero 0 false := ⟨_, read_c0⟩
/-- Two that are equal are zeros, or one and the same place. -/
theorem eq_way (hx : Wf x) (hy : Wf y) (h : FloatKind.f64.format.order x y = some .eq) : (∃ s t, Zero x s ∧ Zero y t) ∨ (key x = key y ∧ ∃ o, o ≠ .eq ∧ FloatKind.f64.format.order x 0 = some o) := by
  have tp := top_pos
  cases h1 : double.read x with
  | nan s t => rw [show FloatKind.f64.format.order x y = double.order x y from rfl] at h; unfold Format.order at h; rw [h1] at h; cases e : double.read y <;> rw [e] at h <;> cases h
  | infinity s =>
    right
    have ho : FloatKind.f64.format.order x 0 = some (if s then .lt else .gt) := by show double.order x 0 = _; unfold Format.order; rw [h1, read_c0]; rfl
    refine ⟨?_, _, ?_, ho⟩
    · cases h2 : double.read y with
      | nan s t => rw [show FloatKind.f64.format.order x y = double.order x y from rfl] at h; unfold Format.order at h; rw [h1, h2] at h; cases h
      | infinity t =>
        have e : s = t := by
          rw [show FloatKind.f64.format.order x y = double.order x y from rfl] at h; unfold Format.order at h; rw [h1, h2] at h
          cases s <;> cases t <;> first | rfl | (exact absurd h (by decide))
        subst e
        unfold key; rw [h1, h2]
      | number t n j =>
        rw [show FloatKind.f64.format.order x y = double.order x y from rfl] at h; unfold Format.order at h; rw [h1, h2] at h
        cases s <;> simp [Datum.order] at h
    · cases s <;> decide
  | number s m i =>
    cases h2 : double.read y with
    | nan s t => rw [show FloatKind.f64.format.order x y = double.order x y from rfl] at h; unfold Format.order at h; rw [h1, h2] at h; cases h
    | infinity t =>
      rw [show FloatKind.f64.format.order x y = double.order x y from rfl] at h; unfold Format.order at h; rw [h1, h2] at h
      cases t <;> simp [Datum.order] at h
    | number t n j =>
      have ho : FloatKind.f64.format.order x y = some (compare (val s m i) (val t n j)) := order_val h1 h2
      rw [ho] at h
      have he : val s m i = val t n j := by
        rcases Int.lt_trichotomy (val s m i) (val t n j) with h' | h' | h'
        · rw [compare_lt h'] at h; cases h
        · exact h'
        · rw [compare_gt h'] at h; cases h
      obtain ⟨z1, p1, q1⟩ := sgn_val s m i
      obtain ⟨z2, p2, q2⟩ := sgn_val t n j
      by_cases m0 : m = 0
      · left
        subst m0
        have n0 : n = 0 := by
          by_cases n0 : n = 0
          · exact n0
          · have := z1 rfl
            cases t
            · have := p2 n0 rfl; omega
            · have := q2 n0 rfl; omega
        subst n0
        exact ⟨s, t, ⟨i, h1⟩, ⟨j, h2⟩⟩
      · right
        have n0 : n ≠ 0 := fun n0 => by
          have := z2 n0
          cases s
          · have := p1 m0 rfl; omega
          · have := q1 m0 rfl; omega
        have k1 : key x = kn s m (val s m i) := by unfold key; rw [h1]; rfl
        have k2 : key y = kn t n (val t n j) := by unfold key; rw [h2]; rfl
        refine ⟨?_, compare (val s m i) (val false 0 (-1074)), ?_, order_val h1 read_c0⟩
        · rw [k1, k2]
          unfold kn
          rw [if_neg (show ¬ (m = 0 ∧ s = false) from fun e => m0 e.1), if_neg (show ¬ (n = 0 ∧ t = false) from fun e => n0 e.1), he]
        · rw [val_zero]
          cases s
          · have := p1 m0 rfl
            rw [compare_gt (by omega)]; decide
          · have := q1 m0 rfl
            rw [compare_lt (by omega)]; decide
theorem ord_inf (s t : Bool) : FloatKind.f64.format.order (inf s) (inf t) = some (compare t.toNat s.toNat) := by
  show double.order _ _ = _
  unfold Format.order
  rw [read_inf, read_inf]
  cases s <;> cases t <;> rfl
theorem ord_lt {x y : Nat} (hx : Wf x) (hy : Wf y) (nx : isN x = false) (ny : isN y = false) : (∃ o, FloatKind.f64.format.order x y = some o ∧ ((o = .lt ∧ key x < key y) ∨ (o = .gt ∧ key y < key x) ∨ (o = .eq ∧ ((∃ s t, Zero x s ∧ Zero y t) ∨ (key x = key y ∧ ∃ o, o ≠ .eq ∧ FloatKind.f64.format.order x 0 = some o))))) := by
  obtain ⟨o, c⟩ := cmp_any hx hy nx ny
  refine ⟨o, c.o, ?_⟩
  cases o with
  | lt => exact Or.inl ⟨rfl, c.lt rfl⟩
  | gt => exact Or.inr (Or.inl ⟨rfl, c.gt rfl⟩)
  | eq => exact Or.inr (Or.inr ⟨rfl, eq_way hx hy c.o⟩)
set_option maxRecDepth 100000 in
/-- Are two the same? -/
theorem same_any (x y : Nat) (hx : Wf x) (hy : Wf y) (w : World) : Calls Tryd.prog 12 #[.float .f64 x, .float .f64 y] w (Still (.bool (decide (key x = key y))) w) := by
  cases nx : isN x with
  | true =>
    have o1 := ord_no nx
    have k1 := key_nan nx
    cases ny : isN y with
    | true =>
      have o2 := ord_no ny
      have k2 := key_nan ny
      rw [show decide (key x = key y) = true by rw [k1, k2]; simp]
      clear k1 k2 nx ny hx hy
      go_enter Tryd.func12, Tryd.ntmps12
      go_wp2_with fail
      go_ret
      exact ⟨rfl, rfl⟩
    | false =>
      have o2 := ord_self hy ny
      have o3 : FloatKind.f64.format.order x y = none := ord_nan (Or.inl nx)
      have k2 := key_num ny
      rw [show decide (key x = key y) = false by rw [k1]; exact decide_eq_false (by omega)]
      clear k1 k2 nx ny hx hy
      go_enter Tryd.func12, Tryd.ntmps12
      go_wp2_with fail
      go_ret
      exact ⟨rfl, rfl⟩
  | false =>
    have o1 := ord_self hx nx
    have k1 := key_num nx
    cases ny : isN y with
    | true =>
      have o3 : FloatKind.f64.format.order x y = none := ord_nan (Or.inr ny)
      have k2 := key_nan ny
      rw [show decide (key x = key y) = false by rw [k2]; exact decide_eq_false (by omega)]
      clear k1 k2 nx ny hx hy
      go_enter Tryd.func12, Tryd.ntmps12
      go_wp2_with fail
      go_ret
      exact ⟨rfl, rfl⟩
    | false =>
      obtain ⟨o, ho, h⟩ := ord_lt hx hy nx ny
      clear nx ny k1
      rcases h with ⟨rfl, h⟩ | ⟨rfl, h⟩ | ⟨rfl, h⟩
      · rw [show decide (key x = key y) = false from decide_eq_false (by omega)]
        clear hx hy h
        go_enter Tryd.func12, Tryd.ntmps12
        go_wp2_with fail
        go_ret
        exact ⟨rfl, rfl⟩
      · rw [show decide (key x = key y) = false from decide_eq_false (by omega)]
        clear hx hy h
        go_enter Tryd.func12, Tryd.ntmps12
        go_wp2_with fail
        go_ret
        exact ⟨rfl, rfl⟩
      · rcases h with ⟨s, t, zx, zy⟩ | ⟨hk, o, ho2, ho3⟩
        · have q1 := fun w => run_float_arith (P := Tryd.prog) w .quo 23 .f64 c1 x _ (div_zero zx)
          have q2 := fun w => run_float_arith (P := Tryd.prog) w .quo 23 .f64 c1 y _ (div_zero zy)
          have o4 := ord_zero zx zero_c0
          have o5 := ord_inf s t
          have e : decide (key x = key y) = decide (s = t) := by
            rw [key_zero zx, key_zero zy]
            cases s <;> cases t <;> rfl
          rw [e]
          clear zx zy hx hy e
          simp only [show c1 = 4607182418800017408 from rfl] at q1 q2
          generalize inf s = a at *
          generalize inf t = b at *
          cases s <;> cases t
          all_goals
            simp only [show compare (Bool.toNat false) (Bool.toNat false) = .eq from rfl, show compare (Bool.toNat true) (Bool.toNat false) = .gt from rfl, show compare (Bool.toNat false) (Bool.toNat true) = .lt from rfl, show compare (Bool.toNat true) (Bool.toNat true) = .eq from rfl] at o5
            go_enter Tryd.func12, Tryd.ntmps12
            go_wp2_with fail
            go_ret
            exact ⟨rfl, rfl⟩
        · rw [show decide (key x = key y) = true from decide_eq_true hk]
          clear hx hy hk
          cases o
          · go_enter Tryd.func12, Tryd.ntmps12
            go_wp2_with fail
            go_ret
            exact ⟨rfl, rfl⟩
          · exact absurd rfl ho2
          · go_enter Tryd.func12, Tryd.ntmps12
            go_wp2_with fail
            go_ret
            exact ⟨rfl, rfl⟩
set_option maxRecDepth 100000 in
/-- The document's order. -/
theorem rless_any (x y : Nat) (hx : Wf x) (hy : Wf y) (w : World) : Calls Tryd.prog 24 #[.float .f64 x, .float .f64 y] w (Still (.bool (decide (key x < key y))) w) := by
  cases ny : isN y with
  | true =>
    have o1 := ord_no ny
    have k1 := key_nan ny
    have hk : decide (key x < key y) = false := by
      rw [k1]
      cases nx : isN x with
      | true => rw [key_nan nx]; simp
      | false => have := key_num nx; exact decide_eq_false (by omega)
    rw [hk]
    clear k1 ny hx hy hk
    go_enter Tryd.func24, Tryd.ntmps24
    go_wp2_with fail
    go_ret
    exact ⟨rfl, rfl⟩
  | false =>
    have o1 := ord_self hy ny
    have k1 := key_num ny
    cases nx : isN x with
    | true =>
      have o2 := ord_no nx
      have k2 := key_nan nx
      rw [show decide (key x < key y) = true by rw [k2]; exact decide_eq_true (by omega)]
      clear k1 k2 nx ny hx hy
      go_enter Tryd.func24, Tryd.ntmps24
      go_wp2_with fail
      go_ret
      exact ⟨rfl, rfl⟩
    | false =>
      have o2 := ord_self hx nx
      obtain ⟨o, ho, h⟩ := ord_lt hx hy nx ny
      have tp := top_pos
      rcases h with ⟨rfl, h⟩ | ⟨rfl, h⟩ | ⟨rfl, h⟩
      · rw [show decide (key x < key y) = true from decide_eq_true h]
        obtain ⟨a, ha, hza⟩ := ord_lt hx (show Wf 0 by unfold Wf; omega) nx (by decide +kernel)
        obtain ⟨b, hb, hzb⟩ := ord_lt hy (show Wf 0 by unfold Wf; omega) ny (by decide +kernel)
        have hab : a ≠ .eq ∨ b ≠ .eq := by
          by_cases ea : a = .eq
          · by_cases eb : b = .eq
            · exfalso
              subst ea eb
              rcases hza with ⟨e, _⟩ | ⟨e, _⟩ | ⟨_, ⟨s, t, zx, _⟩ | ⟨_, o', h1, h2⟩⟩
              · cases e
              · cases e
              · rcases hzb with ⟨e, _⟩ | ⟨e, _⟩ | ⟨_, ⟨s2, t2, zy, _⟩ | ⟨_, o', h1, h2⟩⟩
                · cases e
                · cases e
                · rw [ord_zero zx zy] at ho; cases ho
                · rw [hb] at h2; cases h2; exact h1 rfl
              · rw [ha] at h2; cases h2; exact h1 rfl
            · exact Or.inr eb
          · exact Or.inl ea
        clear h hza hzb k1 nx ny hx hy tp
        by_cases ea : a = .eq
        · subst ea
          have hb2 : b ≠ .eq := hab.resolve_left (fun h => h rfl)
          clear hab
          cases b
          · go_enter Tryd.func24, Tryd.ntmps24
            go_wp2_with fail
            go_ret
            exact ⟨rfl, rfl⟩
          · exact absurd rfl hb2
          · go_enter Tryd.func24, Tryd.ntmps24
            go_wp2_with fail
            go_ret
            exact ⟨rfl, rfl⟩
        · clear hab
          cases a
          · go_enter Tryd.func24, Tryd.ntmps24
            go_wp2_with fail
            go_ret
            exact ⟨rfl, rfl⟩
          · exact absurd rfl ea
          · go_enter Tryd.func24, Tryd.ntmps24
            go_wp2_with fail
            go_ret
            exact ⟨rfl, rfl⟩
      · rw [show decide (key x < key y) = false from decide_eq_false (by omega)]
        obtain ⟨a, ha, hza⟩ := ord_lt hx (show Wf 0 by unfold Wf; omega) nx (by decide +kernel)
        obtain ⟨b, hb, hzb⟩ := ord_lt hy (show Wf 0 by unfold Wf; omega) ny (by decide +kernel)
        have hab : a ≠ .eq ∨ b ≠ .eq := by
          by_cases ea : a = .eq
          · by_cases eb : b = .eq
            · exfalso
              subst ea eb
              rcases hza with ⟨e, _⟩ | ⟨e, _⟩ | ⟨_, ⟨s, t, zx, _⟩ | ⟨_, o', h1, h2⟩⟩
              · cases e
              · cases e
              · rcases hzb with ⟨e, _⟩ | ⟨e, _⟩ | ⟨_, ⟨s2, t2, zy, _⟩ | ⟨_, o', h1, h2⟩⟩
                · cases e
                · cases e
                · rw [ord_zero zx zy] at ho; cases ho
                · rw [hb] at h2; cases h2; exact h1 rfl
              · rw [ha] at h2; cases h2; exact h1 rfl
            · exact Or.inr eb
          · exact Or.inl ea
        clear h hza hzb k1 nx ny hx hy tp
        by_cases ea : a = .eq
        · subst ea
          have hb2 : b ≠ .eq := hab.resolve_left (fun h => h rfl)
          clear hab
          cases b
          · go_enter Tryd.func24, Tryd.ntmps24
            go_wp2_with fail
            go_ret
            exact ⟨rfl, rfl⟩
          · exact absurd rfl hb2
          · go_enter Tryd.func24, Tryd.ntmps24
            go_wp2_with fail
            go_ret
            exact ⟨rfl, rfl⟩
        · clear hab
          cases a
          · go_enter Tryd.func24, Tryd.ntmps24
            go_wp2_with fail
            go_ret
            exact ⟨rfl, rfl⟩
          · exact absurd rfl ea
          · go_enter Tryd.func24, Tryd.ntmps24
            go_wp2_with fail
            go_ret
            exact ⟨rfl, rfl⟩
      · rcases h with ⟨s, t, zx, zy⟩ | ⟨hk, o, ho2, ho3⟩
        · have q1 := fun w => run_float_arith (P := Tryd.prog) w .quo 23 .f64 c1 x _ (div_zero zx)
          have q2 := fun w => run_float_arith (P := Tryd.prog) w .quo 23 .f64 c1 y _ (div_zero zy)
          have o4 := ord_zero zx zero_c0
          have o6 := ord_zero zy zero_c0
          have o5 := ord_inf s t
          have e : decide (key x < key y) = decide (s = true ∧ t = false) := by
            rw [key_zero zx, key_zero zy]
            cases s <;> cases t <;> rfl
          rw [e]
          clear zx zy hx hy e k1 nx ny tp
          simp only [show c1 = 4607182418800017408 from rfl] at q1 q2
          generalize inf s = a at *
          generalize inf t = b at *
          cases s <;> cases t
          all_goals
            simp only [show compare (Bool.toNat false) (Bool.toNat false) = .eq from rfl, show compare (Bool.toNat true) (Bool.toNat false) = .gt from rfl, show compare (Bool.toNat false) (Bool.toNat true) = .lt from rfl, show compare (Bool.toNat true) (Bool.toNat true) = .eq from rfl] at o5
            go_enter Tryd.func24, Tryd.ntmps24
            go_wp2_with fail
            go_ret
            exact ⟨rfl, rfl⟩
        · rw [show decide (key x < key y) = false from decide_eq_false (by omega)]
          clear hx hy hk k1 nx ny tp
          cases o
          · go_enter Tryd.func24, Tryd.ntmps24
            go_wp2_with fail
            go_ret
            exact ⟨rfl, rfl⟩
          · exact absurd rfl ho2
          · go_enter Tryd.func24, Tryd.ntmps24
            go_wp2_with fail
            go_ret
            exact ⟨rfl, rfl⟩
/-- The lesser of two, as the program tells it, and as the document does. -/
def lstP (x y : Nat) : Nat := if isN x then y else if isN y ∨ key x < key y then x else y
def lstR (x y : Nat) : Nat := if isN x then y else if isN y then x else if key y < key x then y else x
theorem lst_key (x y : Nat) : key (lstP x y) = key (lstR x y) := by
  unfold lstP lstR
  cases isN x <;> cases isN y <;> simp <;> (split <;> split <;> omega)
theorem lst_comm (x y : Nat) : key (lstP x y) = key (lstP y x) := by
  have e : ∀ {a b : Nat}, isN a = true → isN b = true → key a = key b := fun h1 h2 => by rw [key_nan h1, key_nan h2]
  unfold lstP
  cases h1 : isN x <;> cases h2 : isN y <;> simp
  · split <;> split <;> omega
  · exact e h2 h1
set_option maxRecDepth 100000 in
theorem least_any (x y : Nat) (hx : Wf x) (hy : Wf y) (w : World) : Calls Tryd.prog 17 #[.float .f64 x, .float .f64 y] w (Still (.float .f64 (lstP x y)) w) := by
  have cb := below_any x y hx hy w
  unfold lstP
  cases nx : isN x with
  | true =>
    have o1 := ord_no nx
    rw [if_pos rfl]
    clear cb
    go_enter Tryd.func17, Tryd.ntmps17
    go_wp2_with fail
    go_ret
    exact ⟨rfl, rfl⟩
  | false =>
    have o1 := ord_self hx nx
    rw [if_neg (by decide)]
    cases ny : isN y with
    | true =>
      have o2 := ord_no ny
      rw [if_pos (Or.inl rfl)]
      clear cb
      go_enter Tryd.func17, Tryd.ntmps17
      go_wp2_with fail
      go_ret
      exact ⟨rfl, rfl⟩
    | false =>
      have o2 := ord_self hy ny
      by_cases hk : key x < key y
      · rw [if_pos (Or.inr hk)]
        rw [show decide (key x < key y) = true from decide_eq_true hk] at cb
        clear hk hx hy nx ny
        go_enter Tryd.func17, Tryd.ntmps17
        go_wp2_with fail
        with_reducible refine Calls.mono (cb) ?_
        rintro e w2 ⟨rfl, rfl⟩
        go_wp2_with fail
        go_ret
        exact ⟨rfl, rfl⟩
      · rw [if_neg (fun h => h.elim (fun h => by cases h) hk)]
        rw [show decide (key x < key y) = false from decide_eq_false hk] at cb
        clear hk hx hy nx ny
        go_enter Tryd.func17, Tryd.ntmps17
        go_wp2_with fail
        with_reducible refine Calls.mono (cb) ?_
        rintro e w2 ⟨rfl, rfl⟩
        go_wp2_with fail
        go_ret
        exact ⟨rfl, rfl⟩
set_option maxRecDepth 100000 in
theorem rleast_any (x y : Nat) (hx : Wf x) (hy : Wf y) (w : World) : Calls Tryd.prog 18 #[.float .f64 x, .float .f64 y] w (Still (.float .f64 (lstR x y)) w) := by
  have cb := rless_any y x hy hx w
  unfold lstR
  cases nx : isN x with
  | true =>
    have o1 := ord_no nx
    rw [if_pos rfl]
    clear cb
    go_enter Tryd.func18, Tryd.ntmps18
    go_wp2_with fail
    go_ret
    exact ⟨rfl, rfl⟩
  | false =>
    have o1 := ord_self hx nx
    rw [if_neg (by decide)]
    cases ny : isN y with
    | true =>
      have o2 := ord_no ny
      rw [if_pos rfl]
      clear cb
      go_enter Tryd.func18, Tryd.ntmps18
      go_wp2_with fail
      go_ret
      exact ⟨rfl, rfl⟩
    | false =>
      have o2 := ord_self hy ny
      rw [if_neg (by decide)]
      by_cases hk : key y < key x
      · rw [if_pos hk]
        rw [show decide (key y < key x) = true from decide_eq_true hk] at cb
        clear hk hx hy nx ny
        go_enter Tryd.func18, Tryd.ntmps18
        go_wp2_with fail
        with_reducible refine Calls.mono (cb) ?_
        rintro e w2 ⟨rfl, rfl⟩
        go_wp2_with fail
        go_ret
        exact ⟨rfl, rfl⟩
      · rw [if_neg hk]
        rw [show decide (key y < key x) = false from decide_eq_false hk] at cb
        clear hk hx hy nx ny
        go_enter Tryd.func18, Tryd.ntmps18
        go_wp2_with fail
        with_reducible refine Calls.mono (cb) ?_
        rintro e w2 ⟨rfl, rfl⟩
        go_wp2_with fail
        go_ret
        exact ⟨rfl, rfl⟩
end Pr
end Go.Proofs.YtinlbenifmcgaaaDoor
