/- The reference's Next: what its tests tell. -/
import Derived.Test.YtljmllmfjfimpaaNextR
namespace Go.Proofs.Ytljmllmfjfimpaa.Aw
open Go
set_option linter.unusedSimpArgs false
set_option linter.unusedVariables false

/-- The number of the first n bits, the first one the highest. -/
def topN (B : List Nat) : Nat → Nat
  | 0 => 0
  | n + 1 => 2 * topN B n + B.getD n 0
theorem getD_lt {B : List Nat} (h : ∀ x ∈ B, x < 2) (i : Nat) : B.getD i 0 < 2 := by
  by_cases hi : i < B.length
  · have : B.getD i 0 = B[i] := by simp [List.getD, List.getElem?_eq_getElem hi]
    rw [this]; exact h _ (List.getElem_mem hi)
  · simp [List.getD, List.getElem?_eq_none (by omega : B.length ≤ i)]
theorem topN_lt {B : List Nat} (h : ∀ x ∈ B, x < 2) : ∀ n, topN B n < 2 ^ n
  | 0 => by simp [topN]
  | n + 1 => by
    have h1 := topN_lt h n
    have h2 := getD_lt h n
    simp only [topN, Nat.pow_succ]; omega
theorem topN_div {B : List Nat} (h : ∀ x ∈ B, x < 2) (j : Nat) : ∀ d, topN B (j + d) / 2 ^ d = topN B j
  | 0 => by simp
  | d + 1 => by
    have h1 := topN_div h j d
    have h2 := getD_lt h (j + d)
    rw [Nat.pow_succ, Nat.mul_comm, ← Nat.div_div_eq_div_mul]
    have : topN B (j + (d + 1)) / 2 = topN B (j + d) := by show (2 * topN B (j + d) + B.getD (j + d) 0) / 2 = _; omega
    rw [this, h1]
theorem rowB_get {c n i : Nat} (h : i < n) : (rowB c n).getD i 0 = c / 2 ^ (n - 1 - i) % 2 := by simp [rowB, List.getD, h]
theorem row_top {B : List Nat} (h : ∀ x ∈ B, x < 2) {c n : Nat} (hc : c < 2 ^ n) : (∀ i, i < n → c / 2 ^ (n - 1 - i) % 2 = B.getD i 0) ↔ c = topN B n := by
  constructor
  · intro ha
    have key : ∀ j, j ≤ n → c / 2 ^ (n - j) = topN B j := by
      intro j
      induction j with
      | zero => intro _; rw [Nat.sub_zero, Nat.div_eq_of_lt hc]; rfl
      | succ j ih =>
        intro hj
        have ih := ih (by omega)
        have := ha j (by omega)
        rw [show n - 1 - j = n - (j + 1) by omega] at this
        rw [show n - j = (n - (j + 1)) + 1 by omega, Nat.pow_succ, ← Nat.div_div_eq_div_mul] at ih
        simp only [topN]; omega
    have := key n (Nat.le_refl _)
    simpa using this
  · rintro rfl i hi
    have h1 := topN_div h (i + 1) (n - 1 - i)
    rw [show i + 1 + (n - 1 - i) = n by omega] at h1
    rw [h1]
    have := getD_lt h i
    show (2 * topN B i + B.getD i 0) % 2 = _
    omega
theorem hd_row {B : List Nat} (h : ∀ x ∈ B, x < 2) {c n : Nat} (hc : c < 2 ^ n) (hn : n ≤ B.length) : hd (rowB c n) B = decide (c = topN B n) := by
  unfold hd
  rw [length_rowB, decide_eq_true hn, Bool.true_and]
  refine decide_eq_decide.2 ?_
  rw [← row_top h hc]
  constructor
  · intro ha i hi; have := ha i hi; rwa [rowB_get hi] at this
  · intro ha i hi; rw [rowB_get hi]; exact ha i hi
theorem hd_pre {B : List Nat} (h : ∀ x ∈ B, x < 2) {c n m : Nat} (hc : c < 2 ^ m) (hn : n ≤ B.length) : hd (B.take n) (rowB c m) = decide (n ≤ m ∧ c / 2 ^ (m - n) = topN B n) := by
  unfold hd
  rw [length_rowB, List.length_take, Nat.min_eq_left hn]
  by_cases hm : n ≤ m
  · rw [decide_eq_true hm, Bool.true_and]
    refine decide_eq_decide.2 ?_
    have hc2 : c / 2 ^ (m - n) < 2 ^ n := by
      rw [Nat.div_lt_iff_lt_mul (Nat.pow_pos (by omega)), ← Nat.pow_add, show n + (m - n) = m by omega]; exact hc
    rw [← row_top h hc2]
    have e : ∀ i, i < n → c / 2 ^ (m - n) / 2 ^ (n - 1 - i) % 2 = c / 2 ^ (m - 1 - i) % 2 := fun i hi => by
      rw [Nat.div_div_eq_div_mul, ← Nat.pow_add, show m - n + (n - 1 - i) = m - 1 - i by omega]
    have e2 : ∀ i, i < n → (B.take n).getD i 0 = B.getD i 0 := fun i hi => by simp only [List.getD]; rw [List.getElem?_take, if_pos hi]
    constructor
    · intro ha
      refine ⟨hm, fun i hi => ?_⟩
      have := ha i hi
      rw [e2 i hi, rowB_get (by omega)] at this
      rw [e i hi, this]
    · rintro ⟨_, ha⟩ i hi
      rw [e2 i hi, rowB_get (by omega), ← e i hi, ha i hi]
  · rw [decide_eq_false hm, Bool.false_and, decide_eq_false (fun h => hm h.1)]

/-- Is what stands there the beginning of a row of the first k symbols? -/
def bgn (l B : List Nat) (n k : Nat) : Bool := (List.range k).any fun j => decide (l.getD j 0 ≠ 0) && hd (B.take n) (rowB (codeOf l j) (l.getD j 0))
theorem bgn_succ {l B : List Nat} {n k : Nat} : bgn l B n (k + 1) = (bgn l B n k || (decide (l.getD k 0 ≠ 0) && hd (B.take n) (rowB (codeOf l k) (l.getD k 0)))) := by
  simp [bgn, List.range_succ, List.any_append]

theorem bgn_iff {l : List Nat} (h15 : ∀ x ∈ l, x ≤ 15) (hK : kraft l ≤ 32768) {B : List Nat} (hB : ∀ x ∈ B, x < 2) {n v : Nat} (hn : n ≤ B.length) (hn15 : n ≤ 15) (hv : v = topN B n) (hF : fr l n + cn l n ≤ v) : bgn l B n l.length = decide (v * 2 ^ (15 - n) < kraft l) := by
  have p15 : ∀ j, j < l.length → l.getD j 0 ≤ 15 := fun j hj => by
    have : l.getD j 0 = l[j] := by simp [List.getD, List.getElem?_eq_getElem hj]
    rw [this]; exact h15 _ (List.getElem_mem hj)
  by_cases c : v * 2 ^ (15 - n) < kraft l
  · rw [decide_eq_true c]
    have key : ∀ d, n + d ≤ 15 → (fr l (n + d) + cn l (n + d)) * 2 ^ (15 - (n + d)) ≤ v * 2 ^ (15 - n) ∨ ∃ m, n < m ∧ m ≤ 15 ∧ fr l m ≤ v * 2 ^ (m - n) ∧ v * 2 ^ (m - n) < fr l m + cn l m := by
      intro d
      induction d with
      | zero => intro _; exact .inl (Nat.mul_le_mul_right _ hF)
      | succ d ih =>
        intro hd
        rcases ih (by omega) with h | h
        · by_cases q : (fr l (n + (d + 1)) + cn l (n + (d + 1))) * 2 ^ (15 - (n + (d + 1))) ≤ v * 2 ^ (15 - n)
          · exact .inl q
          · right
            have e : v * 2 ^ (15 - n) = v * 2 ^ (n + (d + 1) - n) * 2 ^ (15 - (n + (d + 1))) := by
              rw [Nat.mul_assoc, ← Nat.pow_add]; congr 2; omega
            refine ⟨n + (d + 1), by omega, hd, ?_, ?_⟩
            · have h2 : fr l (n + (d + 1)) * 2 ^ (15 - (n + (d + 1))) ≤ v * 2 ^ (15 - n) := by
                have : fr l (n + (d + 1)) = 2 * (fr l (n + d) + cn l (n + d)) := rfl
                have hp := pow_half (n := n + d) (by omega)
                rw [this, Nat.mul_comm 2, Nat.mul_assoc]
                rw [hp] at h
                exact h
              rw [e] at h2
              exact Nat.le_of_mul_le_mul_right h2 (Nat.pow_pos (by omega))
            · have h2 : v * 2 ^ (15 - n) < (fr l (n + (d + 1)) + cn l (n + (d + 1))) * 2 ^ (15 - (n + (d + 1))) := by omega
              rw [e] at h2
              exact Nat.lt_of_mul_lt_mul_right h2
        · exact .inr h
    rcases key (15 - n) (by omega) with h | ⟨m, hm1, hm2, hm3, hm4⟩
    · rw [show n + (15 - n) = 15 by omega, Nat.sub_self, Nat.pow_zero, Nat.mul_one, ← kraft_eq h15] at h
      omega
    · have hin := in_code (l := l) (m := m) (j := v * 2 ^ (m - n) - fr l m) (by omega) (by omega)
      obtain ⟨s, hs⟩ : ∃ s, s = (syms l l.length m).getD (v * 2 ^ (m - n) - fr l m) 0 := ⟨_, rfl⟩
      rw [← hs] at hin
      obtain ⟨a1, a2, a3⟩ := hin
      have hlt := code_lt h15 hK a1 a2 (by omega) hm2
      unfold bgn
      rw [List.any_eq_true]
      refine ⟨s, List.mem_range.2 a1, ?_⟩
      rw [a2, hd_pre hB hlt hn, decide_eq_true (by omega), Bool.true_and]
      refine decide_eq_true ⟨by omega, ?_⟩
      rw [a3, show fr l m + (v * 2 ^ (m - n) - fr l m) = v * 2 ^ (m - n) by omega, Nat.mul_div_cancel _ (Nat.pow_pos (by omega)), hv]
  · rw [decide_eq_false c]
    unfold bgn
    rw [List.any_eq_false]
    intro j hj
    have hj := List.mem_range.1 hj
    by_cases h0 : l.getD j 0 = 0
    · simp only [h0]; simp
    · have hlt := code_lt h15 hK hj rfl h0 (p15 j hj)
      rw [decide_eq_true h0, Bool.true_and, hd_pre hB hlt hn]
      intro hd
      obtain ⟨a1, a2⟩ := of_decide_eq_true hd
      apply c
      obtain ⟨b1, b2, b3⟩ := code_in hj rfl h0
      have h4 := kn_le (l := l) h15 (p15 j hj)
      have h5 : v * 2 ^ (l.getD j 0 - n) ≤ codeOf l j := by rw [hv, ← a2]; exact Nat.div_mul_le_self _ _
      have e : v * 2 ^ (15 - n) = v * 2 ^ (l.getD j 0 - n) * 2 ^ (15 - l.getD j 0) := by
        have := p15 j hj
        rw [Nat.mul_assoc, ← Nat.pow_add]; congr 2; omega
      rw [e]
      refine Nat.lt_of_le_of_lt (Nat.mul_le_mul_right _ h5) (Nat.lt_of_lt_of_le (Nat.mul_lt_mul_of_pos_right ?_ (Nat.pow_pos (by omega))) h4)
      omega
end Go.Proofs.Ytljmllmfjfimpaa.Aw
