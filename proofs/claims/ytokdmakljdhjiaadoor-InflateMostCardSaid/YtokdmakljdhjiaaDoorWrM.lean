/- Bytes of bits; bits of numbers. -/
import Derived.Test.YtokdmakljdhjiaaDoorRdA
namespace Go.Proofs.YtokdmakljdhjiaaDoor.Aw
open Go
set_option linter.unusedSimpArgs false
set_option linter.unusedVariables false

/-- The bytes of bits, the last one filled up by noughts. -/
def byteAt (L : List Nat) (k : Nat) : UInt8 := UInt8.ofNat (numB ((L.drop (8 * k)).take 8))
def bytesB (L : List Nat) : List UInt8 := (List.range ((L.length + 7) / 8)).map (byteAt L)
theorem length_bytesB {L : List Nat} : (bytesB L).length = (L.length + 7) / 8 := by simp [bytesB]
theorem byteAt_append {L M : List Nat} {k : Nat} (h : 8 * k + 8 ≤ L.length) : byteAt (L ++ M) k = byteAt L k := by
  unfold byteAt
  rw [List.drop_append_of_le_length (by omega), List.take_append_of_le_length (by rw [List.length_drop]; omega)]
theorem bytesB_snoc0 {L : List Nat} {x : Nat} (h : L.length % 8 = 0) : bytesB (L ++ [x]) = bytesB L ++ [UInt8.ofNat x] := by
  unfold bytesB
  rw [List.length_append, List.length_singleton, show (L.length + 1 + 7) / 8 = (L.length + 7) / 8 + 1 by omega, List.range_succ, List.map_append]
  congr 1
  · refine List.map_congr_left fun k hk => ?_
    have := List.mem_range.1 hk
    exact byteAt_append (by omega)
  · have e : 8 * ((L.length + 7) / 8) = L.length := by omega
    simp only [List.map_cons, List.map_nil, byteAt, e, List.drop_left]
    simp [numB]
theorem bytesB_last {L : List Nat} (h : L.length % 8 ≠ 0) : (bytesB L).getD (L.length / 8) 0 = UInt8.ofNat (numB (L.drop (8 * (L.length / 8)))) := by
  have hk : L.length / 8 < (L.length + 7) / 8 := by omega
  have : (L.drop (8 * (L.length / 8))).take 8 = L.drop (8 * (L.length / 8)) := List.take_of_length_le (by rw [List.length_drop]; omega)
  simp only [List.getD, bytesB, List.getElem?_map, List.getElem?_range hk, Option.map_some, Option.getD_some, byteAt, this]
theorem bytesB_snoc1 {L : List Nat} {x : Nat} (h : L.length % 8 ≠ 0) : bytesB (L ++ [x]) = (bytesB L).set (L.length / 8) (UInt8.ofNat (numB (L.drop (8 * (L.length / 8))) + 2 ^ (L.length % 8) * x)) := by
  apply List.ext_getElem?
  intro k
  have hl : (L ++ [x]).length = L.length + 1 := by simp
  have e : (L.length + 1 + 7) / 8 = (L.length + 7) / 8 := by omega
  rw [List.getElem?_set, length_bytesB]
  by_cases hk : k < (L.length + 7) / 8
  · have h1 : (bytesB (L ++ [x]))[k]? = some (byteAt (L ++ [x]) k) := by simp [bytesB, e, hk]
    have h2 : (bytesB L)[k]? = some (byteAt L k) := by simp [bytesB, hk]
    rw [h1, h2]
    split
    · rename_i e'
      subst e'
      rw [if_pos hk]
      congr 1
      unfold byteAt
      rw [List.drop_append_of_le_length (by omega), List.take_of_length_le (by rw [List.length_append, List.length_drop, List.length_singleton]; omega), numB_append, List.length_drop]
      have : L.length - 8 * (L.length / 8) = L.length % 8 := by omega
      rw [this]; simp [numB]
    · rw [byteAt_append (by omega)]
  · have h1 : (bytesB (L ++ [x]))[k]? = none := List.getElem?_eq_none (by rw [length_bytesB, hl]; omega)
    have h2 : (bytesB L)[k]? = none := List.getElem?_eq_none (by rw [length_bytesB]; omega)
    rw [h1, h2]
    split
    · rename_i e'
      rw [e', if_neg hk]
    · rfl

/-- The lowest n bits of a number, the lowest first; the highest first. -/
def digB (v n : Nat) : List Nat := (List.range n).map fun k => v / 2 ^ k % 2
def rowB (v n : Nat) : List Nat := (List.range n).map fun k => v / 2 ^ (n - 1 - k) % 2
theorem digB_lt {v n : Nat} : ∀ x ∈ digB v n, x < 2 := by
  intro x hx; obtain ⟨k, _, rfl⟩ := List.mem_map.1 hx; exact Nat.mod_lt _ (by omega)
theorem rowB_lt {v n : Nat} : ∀ x ∈ rowB v n, x < 2 := by
  intro x hx; obtain ⟨k, _, rfl⟩ := List.mem_map.1 hx; exact Nat.mod_lt _ (by omega)
theorem length_digB {v n : Nat} : (digB v n).length = n := by simp [digB]
theorem length_rowB {v n : Nat} : (rowB v n).length = n := by simp [rowB]
theorem digB_snoc {v n k : Nat} (h : k < n) : (digB v n).take (k + 1) = (digB v n).take k ++ [v / 2 ^ k % 2] := by
  rw [snocD (d := 0) (by rw [length_digB]; exact h)]; simp [digB, List.getD, h]
theorem rowB_snoc {v n k : Nat} (h : k < n) : (rowB v n).take (k + 1) = (rowB v n).take k ++ [v / 2 ^ (n - 1 - k) % 2] := by
  rw [snocD (d := 0) (by rw [length_rowB]; exact h)]; simp [rowB, List.getD, h]

end Go.Proofs.YtokdmakljdhjiaaDoor.Aw
