/- Strings of bytes: their parts, their sums, their bytes again. -/
import Derived.Test.YtapkcjbfflgplaaDoorBytesArg
import Derived.Test.YtapkcjbfflgplaaDoorTold2
import Derived.Lib.ConvBytes
namespace Go.Proofs.YtapkcjbfflgplaaDoor
open Go.RowKit Go.Lib Fx Ho Gr
set_option linter.unusedVariables false
namespace Cd
variable {w w' W wr : World} {v fv : Value} {zs A B : List Int}
def Byt (zs : List Int) : Prop := ∀ i, i < zs.length → 0 ≤ zs.getD i 0 ∧ zs.getD i 0 < 256
theorem byts_size (zs : List Int) : (byts zs).size = zs.length := by unfold byts; show (List.toArray _).size = _; simp
theorem byts_app (A B : List Int) : byts A ++ byts B = byts (A ++ B) := by
  unfold byts
  rw [List.map_append, ByteArray.mk_append_mk]
theorem byts_extract (zs : List Int) (l h : Nat) : (byts zs).extract l h = byts ((zs.take h).drop l) := by
  apply ByteArray.ext
  unfold byts
  rw [ByteArray.data_extract]
  simp only [List.extract_toArray, List.extract_eq_take_drop, List.map_drop, List.map_take]
  rw [List.drop_take]
theorem byts_low (zs : List Int) (h : Nat) : (byts zs).extract 0 h = byts (zs.take h) := by rw [byts_extract, List.drop_zero]
theorem byts_high (zs : List Int) (l : Nat) : (byts zs).extract l (byts zs).size = byts (zs.drop l) := by rw [byts_extract, byts_size, List.take_length]
theorem Byt.app (h : Byt A) (k : Byt B) : Byt (A ++ B) := fun i hi => by
  rw [List.length_append] at hi
  rcases Nat.lt_or_ge i A.length with g | g
  · rw [List.getD_eq_getElem?_getD, List.getElem?_append_left g, ← List.getD_eq_getElem?_getD]; exact h i g
  · rw [List.getD_eq_getElem?_getD, List.getElem?_append_right g, ← List.getD_eq_getElem?_getD]; exact k _ (by omega)
theorem Byt.take (h : Byt A) (k : Nat) : Byt (A.take k) := take_bytes h
theorem Byt.drop (h : Byt A) (k : Nat) : Byt (A.drop k) := fun i hi => by
  rw [List.length_drop] at hi
  rw [List.getD_eq_getElem?_getD, List.getElem?_drop, ← List.getD_eq_getElem?_getD]
  exact h (k + i) (by omega)
theorem Byt.one {c : Int} (h : 0 ≤ c ∧ c < 256) : Byt [c] := fun i hi => by
  obtain rfl : i = 0 := by simp at hi; omega
  exact h

set_option maxRecDepth 100000 in
theorem conv_bytes (w : World) (zs : List Int) (hz : Byt zs) (hl : zs.length ≤ 1000000) : ∃ (sp : Option Addr) (cap : Nat) (w' : World), (convert 9 62 (.string (byts zs))).run Tryd.prog w = .ok (.slice sp zs.length cap) w' ∧ BRow w' (fun k => k < w'.heap.size) (.slice sp zs.length cap) zs ∧ Below w.heap.size w w' := by
  have h := Go.Lib.run_convert_string_bytes (P := Tryd.prog) w 9 62 5 (byts zs) Tryd.underlying9 Tryd.underlying62 Tryd.underlying5
  rw [byts_size] at h
  refine ⟨_, _, _, h, ⟨_, _, rfl, by omega, fun i hi => ?_⟩, ⟨rfl, rfl, rfl, ?_, fun k hk => bytesWorld_at_old w _ _ k hk⟩⟩
  · refine ⟨w.heap.size, 0, rfl, by rw [bytesWorld_size]; omega, by rw [bytesWorld_size]; omega, ?_, hz i hi⟩
    rw [Nat.zero_add, bytesWorld_cell w _ _ i (by rw [byts_size]; exact hi)]
    have hzi := hz i hi
    unfold byts
    simp only [List.getD_eq_getElem?_getD, List.getElem?_map, List.getElem?_eq_getElem hi, Option.map_some, Option.getD_some] at hzi ⊢
    rw [show (UInt8.ofNat zs[i].toNat).toNat = zs[i].toNat % 256 from UInt8.toNat_ofNat']
    congr 2
    omega
  · rw [bytesWorld_size]; omega

set_option maxRecDepth 100000 in
theorem conv_one {c : Int} (hc : 0 ≤ c ∧ c < 256) (W : World) (K : Nat) (h : W.cell? ⟨K, 0, none⟩ = some (.int .u8 c)) : (convert 62 9 (.slice (some ⟨K, 0, none⟩) 1 1)).run Tryd.prog W = .ok (.string (byts [c])) W := by
  have := run_convert_bytes_back (P := Tryd.prog) W 62 9 5 ⟨K, 0, none⟩ 1 [UInt8.ofNat c.toNat] Tryd.underlying62 Tryd.underlying5 Tryd.underlying9 (fun j hj => by
    obtain rfl : j = 0 := by simp at hj; omega
    rw [addr_add, h]
    simp only [List.getElem_cons_zero]
    rw [show (UInt8.ofNat c.toNat).toNat = c.toNat % 256 from UInt8.toNat_ofNat']
    congr 2
    omega)
  exact this
set_option maxRecDepth 100000 in
theorem sum_run (A B : List Int) (ha : A.length ≤ 100000) (hb : B.length ≤ 100000) (W : World) : (binOp .add 9 (.string (byts A)) (.string (byts B))).run Tryd.prog W = .ok (.string (byts (A ++ B))) W := by
  have := run_string_add (P := Tryd.prog) W (byts A) (byts B) (by rw [byts_size]; omega) (by rw [byts_size]; omega)
  rw [byts_app] at this
  rw [binOp_string_add]; exact this
theorem low_run (zs : List Int) {k : Nat} (hk : k ≤ zs.length) (W : World) : (Instr.slice 9 (.string (byts zs)) none (some (.int .i64 k)) none).run Tryd.prog W = .ok (.string (byts (zs.take k))) W := by
  have := run_slice_string_h (P := Tryd.prog) W 9 (byts zs) Tryd.underlying9 .i64 (k : Int) (by omega) (by rw [byts_size]; omega)
  rw [Int.toNat_natCast, byts_low] at this
  exact this
theorem high_run (zs : List Int) {k : Nat} (hk : k ≤ zs.length) (W : World) : (Instr.slice 9 (.string (byts zs)) (some (.int .i64 k)) none none).run Tryd.prog W = .ok (.string (byts (zs.drop k))) W := by
  have := run_slice_string_l (P := Tryd.prog) W 9 (byts zs) Tryd.underlying9 .i64 (k : Int) (by omega) (by rw [byts_size]; omega)
  rw [Int.toNat_natCast, byts_high] at this
  exact this
end Cd
end Go.Proofs.YtapkcjbfflgplaaDoor
