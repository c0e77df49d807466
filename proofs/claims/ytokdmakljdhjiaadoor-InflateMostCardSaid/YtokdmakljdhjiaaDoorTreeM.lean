/- Rows, their numbers, and what stands at a row of bits. -/
import Derived.Test.YtokdmakljdhjiaaDoorTreeB
namespace Go.Proofs.YtokdmakljdhjiaaDoor.Aw
open Go
set_option linter.unusedSimpArgs false
set_option linter.unusedVariables false

/-- The part of the lengths below n. -/
def kn : List Nat → Nat → Nat
  | [], _ => 0
  | x :: r, n => (if x < n then wt x else 0) + kn r n
theorem kn_succ {l : List Nat} {n : Nat} : kn l (n + 1) = kn l n + l.count n * wt n := by
  induction l with
  | nil => simp [kn]
  | cons x l ih =>
    simp only [kn, ih, List.count_cons]
    by_cases e : x = n
    · subst e; simp [Nat.add_mul]; omega
    · by_cases e2 : x < n
      · rw [if_pos (by omega), if_pos e2]; simp [e]; omega
      · rw [if_neg (by omega), if_neg e2]; simp [e]
theorem kn_all {l : List Nat} (h : ∀ x ∈ l, x ≤ 15) : kn l 16 = kraft l := by
  induction l with
  | nil => rfl
  | cons x l ih =>
    have := h x (by simp)
    simp only [kn, kraft, ih fun y hy => h y (by simp [hy])]
    rw [if_pos (by omega)]
theorem kn_zero {l : List Nat} : kn l 0 = 0 := by
  induction l with
  | nil => rfl
  | cons x l ih => simp only [kn, ih]; simp
theorem wt_eq {n : Nat} (h0 : n ≠ 0) (h : n ≤ 15) : wt n = 2 ^ (15 - n) := by
  unfold wt; rw [if_neg h0]
  exact Nat.pow_div h (by omega) (x := 2)
theorem pow_half {n : Nat} (h : n < 15) : 2 ^ (15 - n) = 2 * 2 ^ (15 - (n + 1)) := by
  rw [show 15 - n = (15 - (n + 1)) + 1 by omega, Nat.pow_succ]; omega
theorem kn_fr {l : List Nat} : ∀ {n : Nat}, n ≤ 15 → kn l n = fr l n * 2 ^ (15 - n)
  | 0, _ => by simp [kn_zero, fr]
  | n + 1, h => by
    have ih := kn_fr (l := l) (n := n) (by omega)
    rw [kn_succ, ih]
    by_cases h0 : n = 0
    · subst h0; simp [wt, fr, cn]
    · rw [wt_eq h0 (by omega), pow_half (n := n) (by omega), fr, cn, if_neg h0, ← Nat.add_mul, ← Nat.mul_assoc, Nat.mul_comm (fr l n + l.count n) 2]
/-- The rows up to a length take so much. -/
theorem kn_le {l : List Nat} {n : Nat} (h : ∀ x ∈ l, x ≤ 15) (hn : n ≤ 15) : (fr l n + cn l n) * 2 ^ (15 - n) ≤ kraft l := by
  have mono : ∀ m k, kn l m ≤ kn l (m + k) := fun m k => by
    induction k with
    | zero => exact Nat.le_refl _
    | succ k ih => rw [show m + (k + 1) = m + k + 1 by omega, kn_succ]; omega
  have h1 := mono (n + 1) (15 - n)
  rw [show n + 1 + (15 - n) = 16 by omega, kn_all h, kn_succ, kn_fr hn] at h1
  by_cases h0 : n = 0
  · subst h0; simp [fr, cn]
  · rw [wt_eq h0 hn] at h1
    rw [cn, if_neg h0, Nat.add_mul]; exact h1
theorem kraft_eq {l : List Nat} (h : ∀ x ∈ l, x ≤ 15) : kraft l = fr l 15 + cn l 15 := by
  rw [← kn_all h, kn_succ, kn_fr (Nat.le_refl _), wt_eq (by omega) (Nat.le_refl _), cn, if_neg (by omega)]; simp
/-- The first row of a length lies behind all shorter ones. -/
theorem fr_far {l : List Nat} {n : Nat} : ∀ {d : Nat}, (fr l n + cn l n) * 2 ^ (d + 1) ≤ fr l (n + (d + 1))
  | 0 => by rw [Nat.zero_add]; show _ ≤ 2 * (fr l n + cn l n); omega
  | d + 1 => by
    have ih := fr_far (l := l) (n := n) (d := d)
    show _ ≤ 2 * (fr l (n + (d + 1)) + cn l (n + (d + 1)))
    rw [Nat.pow_succ, ← Nat.mul_assoc]; omega

/-- A symbol's row is one of its length's. -/
theorem code_in {l : List Nat} {s m : Nat} (hs : s < l.length) (hm : l.getD s 0 = m) (h0 : m ≠ 0) : fr l m ≤ codeOf l s ∧ codeOf l s - fr l m = (l.take s).count m ∧ (l.take s).count m < cn l m := by
  have hc : codeOf l s = fr l m + (l.take s).count m := by unfold codeOf; rw [hm, if_neg h0]
  refine ⟨by omega, by omega, ?_⟩
  rw [cn, if_neg h0]
  have := count_snoc (n := m) hs
  rw [if_pos hm.symm] at this
  have h2 : (l.take (s + 1)).count m ≤ l.count m := List.Sublist.count_le m (List.take_sublist _ _)
  omega
theorem syms_at {l : List Nat} {s m : Nat} (hm : l.getD s 0 = m) (h0 : m ≠ 0) : ∀ {k : Nat}, s < k → k ≤ l.length → (syms l k m).getD ((l.take s).count m) 0 = s
  | 0, h, _ => by omega
  | k + 1, h, hk => by
    rw [syms_succ h0]
    have hlen : (syms l k m).length = (l.take k).count m := by rw [length_syms (by omega), if_neg h0]
    by_cases e : s = k
    · subst e
      rw [if_pos hm]
      simp only [List.getD]
      rw [List.getElem?_append_right (by omega), hlen]; simp
    · have ih := syms_at hm h0 (k := k) (by omega) (by omega)
      split
      · simp only [List.getD] at ih ⊢
        have hlt : (l.take s).count m < (syms l k m).length := by
          rw [hlen]
          have h1 := count_snoc (n := m) (l := l) (k := s) (by omega)
          rw [if_pos hm.symm] at h1
          have h2 : (l.take (s + 1)).count m ≤ (l.take k).count m := by
            have : l.take (s + 1) = (l.take k).take (s + 1) := by rw [List.take_take]; congr 1; omega
            rw [this]; exact List.Sublist.count_le m (List.take_sublist _ _)
          omega
        rw [List.getElem?_append_left hlt]; exact ih
      · exact ih
/-- And each of them is a symbol's. -/
theorem in_code {l : List Nat} {m j : Nat} (h0 : m ≠ 0) (hj : j < cn l m) : (syms l l.length m).getD j 0 < l.length ∧ l.getD ((syms l l.length m).getD j 0) 0 = m ∧ codeOf l ((syms l l.length m).getD j 0) = fr l m + j := by
  have key : ∀ k, k ≤ l.length → ∀ j, j < (syms l k m).length → (syms l k m).getD j 0 < k ∧ l.getD ((syms l k m).getD j 0) 0 = m ∧ (l.take ((syms l k m).getD j 0)).count m = j := by
    intro k
    induction k with
    | zero => intro _ j hj; rw [length_syms (by omega), if_neg h0] at hj; simp at hj
    | succ k ih =>
      intro hk j hj
      have ih := ih (by omega)
      have hlen : (syms l k m).length = (l.take k).count m := by rw [length_syms (by omega), if_neg h0]
      rw [syms_succ h0] at hj ⊢
      split
      · rename_i e
        rw [if_pos e, List.length_append, List.length_singleton] at hj
        by_cases hjl : j < (syms l k m).length
        · have := ih j hjl
          have e2 : (syms l k m ++ [k]).getD j 0 = (syms l k m).getD j 0 := by simp only [List.getD]; rw [List.getElem?_append_left hjl]
          rw [e2]
          exact ⟨by omega, this.2.1, this.2.2⟩
        · have e2 : (syms l k m ++ [k]).getD j 0 = k := by simp only [List.getD]; rw [List.getElem?_append_right (by omega)]; simp [show j - (syms l k m).length = 0 by omega]
          rw [e2]
          exact ⟨by omega, e, by omega⟩
      · rename_i e
        rw [if_neg e] at hj
        have := ih j hj
        exact ⟨by omega, this.2.1, this.2.2⟩
  have h := key l.length (Nat.le_refl _) j (by rw [length_symsF]; exact hj)
  refine ⟨h.1, h.2.1, ?_⟩
  unfold codeOf
  rw [h.2.1, if_neg h0, h.2.2]

theorem code_lt {l : List Nat} (h15 : ∀ x ∈ l, x ≤ 15) (hK : kraft l ≤ 32768) {s m : Nat} (hs : s < l.length) (hm : l.getD s 0 = m) (h0 : m ≠ 0) (hm15 : m ≤ 15) : codeOf l s < 2 ^ m := by
  obtain ⟨h1, h2, h3⟩ := code_in hs hm h0
  have h4 := kn_le h15 hm15
  have h5 : (codeOf l s + 1) * 2 ^ (15 - m) ≤ 2 ^ m * 2 ^ (15 - m) := by
    rw [← Nat.pow_add, show m + (15 - m) = 15 by omega]
    refine Nat.le_trans (Nat.mul_le_mul_right _ ?_) (Nat.le_trans h4 hK)
    omega
  exact Nat.le_of_mul_le_mul_right h5 (Nat.pow_pos (by omega))

/-- A row that stands there is read. -/
theorem nxt_row {l : List Nat} (h15 : ∀ x ∈ l, x ≤ 15) (hK : kraft l ≤ 32768) {s m : Nat} (hs : s < l.length) (hm : l.getD s 0 = m) (h0 : m ≠ 0) (hm15 : m ≤ 15) {B : List Nat} (hB : m ≤ B.length) (hrow : ∀ j, j < m → B.getD j 0 = codeOf l s / 2 ^ (m - 1 - j) % 2) :
    nxt l B 15 0 0 = (s, m, 0) := by
  obtain ⟨h1, h2, h3⟩ := code_in hs hm h0
  have hlt := code_lt h15 hK hs hm h0 hm15
  have key : ∀ d n, d = m - n → n < m → nxt l B (15 - n) n (codeOf l s / 2 ^ (m - n)) = (s, m, 0) := by
    intro d
    induction d with
    | zero => intro n hd hn; omega
    | succ d ih =>
      intro n hd hn
      have hf : 15 - n = (14 - n) + 1 := by omega
      have hv : 2 * (codeOf l s / 2 ^ (m - n)) + B.getD n 0 = codeOf l s / 2 ^ (m - (n + 1)) := by
        rw [hrow n hn, show m - 1 - n = m - (n + 1) by omega, show m - n = (m - (n + 1)) + 1 by omega, Nat.pow_succ, ← Nat.div_div_eq_div_mul]
        omega
      rw [hf, nxt, if_neg (by omega), hv]
      have hc : codeOf l s / 2 ^ (m - (n + 1)) * 2 ^ (15 - (n + 1)) < kraft l := by
        have a1 : codeOf l s / 2 ^ (m - (n + 1)) * 2 ^ (m - (n + 1)) ≤ codeOf l s := Nat.div_mul_le_self _ _
        have a2 : 2 ^ (15 - (n + 1)) = 2 ^ (m - (n + 1)) * 2 ^ (15 - m) := by rw [← Nat.pow_add]; congr 1; omega
        have a3 := kn_le h15 hm15
        have a4 : codeOf l s * 2 ^ (15 - m) < (fr l m + cn l m) * 2 ^ (15 - m) := Nat.mul_lt_mul_of_pos_right (by omega) (Nat.pow_pos (by omega))
        rw [a2, ← Nat.mul_assoc]
        exact Nat.lt_of_le_of_lt (Nat.mul_le_mul_right _ a1) (Nat.lt_of_lt_of_le a4 a3)
      rw [if_neg (by omega)]
      by_cases e : n + 1 = m
      · subst e
        rw [Nat.sub_self, Nat.pow_zero, Nat.div_one, h2, if_pos h3, syms_at hm h0 hs (Nat.le_refl _)]
      · have hfar : fr l (n + 1) + cn l (n + 1) ≤ codeOf l s / 2 ^ (m - (n + 1)) := by
          rw [Nat.le_div_iff_mul_le (Nat.pow_pos (by omega))]
          have := fr_far (l := l) (n := n + 1) (d := m - (n + 1) - 1)
          rw [show m - (n + 1) - 1 + 1 = m - (n + 1) by omega, show n + 1 + (m - (n + 1)) = m by omega] at this
          omega
        rw [if_neg (by omega)]
        have := ih (n + 1) (by omega) (by omega)
        rw [show 15 - (n + 1) = 14 - n by omega] at this
        exact this
  have := key m 0 (by omega) (by omega)
  rw [Nat.sub_zero, Nat.sub_zero, Nat.div_eq_of_lt hlt] at this
  exact this
end Go.Proofs.YtokdmakljdhjiaaDoor.Aw
