/- Small facts on bytes. -/
import Derived.Test.YtmgmlbbbjjnmpaaDoorSlim
import Derived.Lib.Bytealg
namespace Go.Proofs.YtmgmlbbbjjnmpaaDoor.Aw
open Go
set_option linter.unusedSimpArgs false
set_option linter.unusedVariables false

theorem indexByte_none (l : List UInt8) (c : UInt8) (h : ∀ k, k < l.length → l.getD k 0 ≠ c) : Lib.indexByte l c = -1 := by
  induction l with
  | nil => rfl
  | cons b l ih =>
    have h0 := h 0 (by simp)
    simp only [List.getD_cons_zero] at h0
    have hr := ih fun k hk => by simpa using h (k + 1) (by simpa using hk)
    simp [Lib.indexByte, h0, hr]
theorem indexByte_some (l : List UInt8) (c : UInt8) (n : Nat) (hn : n < l.length) (hc : l.getD n 0 = c) (h : ∀ k, k < n → l.getD k 0 ≠ c) : Lib.indexByte l c = n := by
  induction l generalizing n with
  | nil => simp at hn
  | cons b l ih =>
    cases n with
    | zero => simp only [List.getD_cons_zero] at hc; simp [Lib.indexByte, hc]
    | succ n =>
      have h0 := h 0 (by omega)
      simp only [List.getD_cons_zero] at h0
      have hr := ih n (by simpa using hn) (by simpa using hc) fun k hk => by simpa using h (k + 1) (by omega)
      have : ((n : Int) == -1) = false := by simp
      simp [Lib.indexByte, h0, hr, this]
theorem indexByte_lt (l : List UInt8) (c : UInt8) : Lib.indexByte l c < l.length := by
  induction l with
  | nil => simp [Lib.indexByte]
  | cons b l ih =>
    simp only [Lib.indexByte, List.length_cons]
    split
    · omega
    · split <;> omega
theorem toNat_inj_int {a b : UInt8} : ((a.toNat : Int) = (b.toNat : Int)) ↔ a = b := by
  constructor
  · intro h; exact UInt8.toNat_inj.1 (by omega)
  · rintro rfl; rfl

theorem take_snoc (b : List UInt8) (k : Nat) (h : k < b.length) : b.take (k + 1) = b.take k ++ [b.getD k 0] := by
  rw [List.take_succ_eq_append_getElem h]; simp [List.getD, List.getElem?_eq_getElem h]
theorem all_take (s : List UInt8) (p : UInt8 → Bool) (k : Nat) (hk : k < s.length) (h : (s.take k).all p = true) : (s.take (k + 1)).all p = p (s.getD k 0) := by
  rw [take_snoc s k hk, List.all_append, h]; simp
theorem all_not (s : List UInt8) (p : UInt8 → Bool) (k : Nat) (hk : k < s.length) (h : p (s.getD k 0) = false) : s.all p = false := by
  rw [List.all_eq_false]
  refine ⟨s[k], List.getElem_mem hk, ?_⟩
  simp [List.getD, List.getElem?_eq_getElem hk] at h
  simp [h]

theorem wrap_u64_id {x : Int} (h1 : 0 ≤ x) (h2 : x < 18446744073709551616) : IntKind.u64.wrap x = x := by
  simp only [IntKind.wrap, IntKind.bits, IntKind.signed]
  simp
  omega

end Go.Proofs.YtmgmlbbbjjnmpaaDoor.Aw
