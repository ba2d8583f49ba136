/- A Pages of a law: Free, walked; Left; calls of none. -/
import Derived.Test.YtbheabjemaaeoabPageFree
namespace Go.Proofs.Ytbheabjemaaeoab
open Go.RowKit Go.Lib Fx Ho Gr
set_option linter.unusedVariables false
namespace Pg
open Hm Mp
variable {W0 w w' w1 W : World} {P b0 z n c i j N d : Nat} {v v' : Value} {L L2 M : List Rn} {H H' : Home} {x r s : Rn} {F F' : List Bool} {m m' : Int → Value}
set_option maxRecDepth 100000 in
set_option maxHeartbeats 4000000 in
theorem free_any (h : Ps W0 W P n c F H) (hc : c ≤ 990) (a k : Int) (hwa : a ≤ 9223372036854775807) : Calls Try.prog 9 #[.pointer (some ⟨P, 0, none⟩), .int .i64 a, .int .i64 k] W (FreeR W0 W P n c F H a k) := by
  obtain ⟨v, b0, z, L, m, h1, h2, h3, h4, hH⟩ := id h
  have hnb := h1.nb
  have cm := may_any h1.pc hnb a k hwa
  by_cases hmay : 1 ≤ a ∧ 1 ≤ k ∧ k ≤ (n : Int) - a
  · rw [decide_eq_true hmay] at cm
    obtain ⟨p, rfl⟩ : ∃ p : Nat, a = (p : Int) := ⟨a.toNat, by omega⟩
    obtain ⟨q, rfl⟩ : ∃ q : Nat, k = (q : Int) := ⟨k.toNat, by omega⟩
    have p1 : 1 ≤ p := by omega
    have q1 : 1 ≤ q := by omega
    have hpq : p + q ≤ n := by omega
    have hlen := h1.pc.len
    obtain ⟨c0, _, c2⟩ := h1.pc.cs
    have ch := has_any h1.pc.fr (a := p) (k := q) (by omega) (by omega) (n - p)
    have hyes : Hid (Any F p q → FreeR W0 W P n c F H p q (.returned (.int .i64 5)) W) := Lib.hid fun hh => .inr ⟨p, q, rfl, rfl, p1, q1, hpq, .inl ⟨hh, step_below h rfl (Below.refl _ _)⟩⟩
    have hset : Hid ((∀ i, p ≤ i → i < p + q → F.getD i false = false) → Calls Try.prog 19 #[.pointer (some ⟨P, 0, none⟩), .int .i64 p, .int .i64 q, .bool true] W fun e w1 => e = .returned (.tuple #[]) ∧ w1.cell? ⟨P, 2, none⟩ = some (.map (some z)) ∧ Hid ((look w1 z ((p : Int) - 1) pz ∧ SB W0 W w1 P n c F L H p q p q) ∨ ∃ blk j p' A : Nat, look w1 z ((p : Int) - 1) (pn blk) ∧ w1.cell? ⟨blk, 2, none⟩ = some (.int .i64 j) ∧ p' ≤ 270000 ∧ A ≤ 270000 ∧ p' + A = p ∧ Calls Try.prog 22 #[.pointer (some ⟨P, 0, none⟩), .int .i64 j] w1 fun e w2 => ∃ rb, e = .returned (.pointer (some ⟨rb, 0, none⟩)) ∧ w2.cell? ⟨rb, 0, none⟩ = some (.int .i64 p') ∧ w2.cell? ⟨rb, 1, none⟩ = some (.int .i64 A) ∧ Hid (∀ V, Below w2.heap.size w2 V → SB W0 W V P n c F L H p q p' (A + q)))) := Lib.hid fun hf => (set_any h1.pc p q true hpq (by omega)).mono fun e w1 ⟨he, s1, s2⟩ => ⟨he, s1.cs.2.2, Lib.hid (left_stage (pe_free h1 s1) h2 hlen p1 q1 hpq hf (by rw [hH]; exact wider s2 (fun k e => .inr (.inl e))))⟩
    have hright : Hid ((∀ i, p ≤ i → i < p + q → F.getD i false = false) → ∀ w2 a' K, SB W0 W w2 P n c F L H p q a' K → ∃ z, w2.cell? ⟨P, 2, none⟩ = some (.map (some z)) ∧ ((look w2 z ((p : Int) + q) pz ∧ SC W0 W w2 P n c F L H p q a' K) ∨ ∃ blk j B : Nat, look w2 z ((p : Int) + q) (pn blk) ∧ w2.cell? ⟨blk, 2, none⟩ = some (.int .i64 j) ∧ B ≤ 270000 ∧ Calls Try.prog 22 #[.pointer (some ⟨P, 0, none⟩), .int .i64 j] w2 fun e w3 => ∃ rb, e = .returned (.pointer (some ⟨rb, 0, none⟩)) ∧ w3.cell? ⟨rb, 1, none⟩ = some (.int .i64 B) ∧ Hid (SC W0 W w3 P n c F L H p q a' (K + B)))) := Lib.hid fun hf w2 a' K hs => right_stage hs h2 h1.lx hlen p1 q1 hpq hf
    have hput : Hid ((∀ i, p ≤ i → i < p + q → F.getD i false = false) → ∀ w3 a' K, SC W0 W w3 P n c F L H p q a' K → Calls Try.prog 20 #[.pointer (some ⟨P, 0, none⟩), .int .i64 a', .int .i64 K] w3 fun e w' => e = .returned (.tuple #[]) ∧ Hid (FreeR W0 W P n c F H p q (.returned (.int .i64 0)) w')) := Lib.hid fun hf w3 a' K hs => (put_stage hs h2 h1.lx hlen p1 q1 hpq hf hc h3 h4 ⟨v, b0, z, hH⟩).mono fun e w' ⟨he, hst⟩ => ⟨he, Lib.hid (.inr ⟨p, q, rfl, rfl, p1, q1, hpq, .inr ⟨hf, hst.out⟩⟩)⟩
    have pn1 : (p : Int) + (q : Int) ≤ (n : Int) := by omega
    have pb : p ≤ 270000 := by omega
    have qb : q ≤ 270000 := by omega
    have p0 : (0 : Int) ≤ (p : Int) := by omega
    have hcapz : ((n : Int) - (p : Int)).toNat = n - p := by omega
    clear h h1 h2 h3 h4 hH hmay
    go_enter Try.func9, Try.ntmps9
    go_wp2_with fail
    with_reducible refine Calls.mono (cm) ?_
    rintro e w2 ⟨rfl, ew⟩
    subst ew
    clear cm
    go_wp2_with fail
    with_reducible refine Calls.mono ch ?_
    rintro e w2 ⟨ew, hres⟩
    subst ew
    clear ch
    rcases hres with ⟨rfl, hany⟩ | ⟨rfl, hf⟩
    · have hgo := Lib.hid (hyes.out hany)
      clear hyes hset hright hput hany
      go_wp2_with fail
      go_ret
      exact hgo.out
    · have cset := hset.out hf
      replace hright := Lib.hid (hright.out hf)
      replace hput := Lib.hid (hput.out hf)
      clear hyes hset hf
      go_wp2_with fail
      with_reducible refine Calls.mono cset ?_
      rintro e w1 ⟨rfl, d2, hl⟩
      clear cset
      rcases hl.out with ⟨hlk, hsb⟩ | ⟨blk, j, p', A, hlk, hcj, pb', Ab, hpa, ct⟩
      · obtain ⟨z2, e2, hrr⟩ := hright.out w1 p q hsb
        obtain rfl : z = z2 := by rw [d2] at e2; cases e2; rfl
        unfold look at hlk
        clear hl hsb hright e2
        rcases hrr with ⟨hlk2, hsc⟩ | ⟨blk2, j2, B, hlk2, hcj2, Bb, ct2⟩
        · have cp := hput.out w1 p q hsc
          unfold look at hlk2
          clear hput hsc
          go_wp2_with fail
          with_reducible refine Calls.mono cp ?_
          rintro e w5 ⟨rfl, hgo⟩
          clear cp
          go_wp2_with fail
          go_ret
          exact hgo.out
        · unfold look at hlk2
          go_wp2_with fail
          with_reducible refine Calls.mono ct2 ?_
          rintro e w3 ⟨rb, rfl, e1, hsc⟩
          have cp := hput.out w3 p (q + B) hsc.out
          rw [show ((q + B : Nat) : Int) = (q : Int) + (B : Int) by omega] at cp
          clear hput hsc ct2
          go_wp2_with fail
          with_reducible refine Calls.mono cp ?_
          rintro e w5 ⟨rfl, hgo⟩
          clear cp
          go_wp2_with fail
          go_ret
          exact hgo.out
      · unfold look at hlk
        clear hl
        go_wp2_with fail
        with_reducible refine Calls.mono ct ?_
        rintro e w2 ⟨rb, rfl, e0, e1, hsb⟩
        have hkey : (p' : Int) + ((A : Int) + (q : Int)) = (p : Int) + (q : Int) := by omega
        replace hkey := Lib.hid hkey
        clear ct d2 hlk hcj
        go_wp2_with fail
        go_quiet (fail)
        have hsb2 := hsb.out (w2.drewN nq) (below_drewN (Below.refl _ _) nq)
        generalize w2.drewN nq = wq at *
        obtain ⟨z2, f2, hrr⟩ := hright.out wq p' (A + q) hsb2
        clear hright hsb hsb2 e0 e1
        rcases hrr with ⟨hlk2, hsc⟩ | ⟨blk2, j2, B, hlk2, hcj2, Bb, ct2⟩
        · have cp := hput.out _ p' (A + q) hsc
          rw [show ((A + q : Nat) : Int) = (A : Int) + (q : Int) by omega] at cp
          rw [← hkey.out] at hlk2
          unfold look at hlk2
          clear hput hsc hkey hpa
          go_wp2_with fail
          with_reducible refine Calls.mono cp ?_
          rintro e w5 ⟨rfl, hgo⟩
          clear cp
          go_wp2_with fail
          go_ret
          exact hgo.out
        · rw [← hkey.out] at hlk2
          unfold look at hlk2
          clear hkey hpa
          go_wp2_with fail
          with_reducible refine Calls.mono ct2 ?_
          rintro e w3 ⟨rb2, rfl, g1, hsc⟩
          have cp := hput.out w3 p' (A + q + B) hsc.out
          rw [show ((A + q + B : Nat) : Int) = (A : Int) + (q : Int) + (B : Int) by omega] at cp
          clear hput hsc ct2
          go_wp2_with fail
          with_reducible refine Calls.mono cp ?_
          rintro e w5 ⟨rfl, hgo⟩
          clear cp
          go_wp2_with fail
          go_ret
          exact hgo.out
  · rw [decide_eq_false hmay] at cm
    have hgo : Hid (FreeR W0 W P n c F H a k (.returned (.int .i64 1)) W) := Lib.hid (.inl ⟨hmay, step_below h rfl (Below.refl _ _)⟩)
    clear h h1 h2 h3 h4 hmay hH
    go_enter Try.func9, Try.ntmps9
    go_wp2_with fail
    with_reducible refine Calls.mono (cm) ?_
    rintro e w2 ⟨rfl, ew⟩
    subst ew
    clear cm
    go_wp2_with fail
    go_ret
    exact hgo.out
end Pg
end Go.Proofs.Ytbheabjemaaeoab
