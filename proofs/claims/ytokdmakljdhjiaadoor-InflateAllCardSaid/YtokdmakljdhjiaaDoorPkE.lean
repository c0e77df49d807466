/- Contracts: drayageref03.Row, head, Next. -/
import Derived.Test.YtokdmakljdhjiaaDoorPkD
namespace Go.Proofs.YtokdmakljdhjiaaDoor.Aw
open Go
set_option linter.unusedSimpArgs false
set_option linter.unusedVariables false


set_option maxRecDepth 100000 in
theorem ref_Row_c [Tabs Tryd.prog] (v n : Nat) (hv : v < 32768) (hn : n ≤ 15) : Con Tryd.prog n_drayageref03_Row [.sc (.int .i64 (v : Int)), .sc (.int .i64 (n : Int))] (.sl (nl0 n) none ((rowB v n).map nA)) := by
  refine Con.of' mix Tryd.func62 rfl Tryd.ntmps62 e_drayageref03_Row r_drayageref03_Row (by simp) rfl (by simp only [AV.free, free_nA]) ?_
  unfold s_drayageref03_Row
  repeat (first | refine wA ?_ | refine wB ?_ | refine wC rfl ?_ | refine wD rfl ?_ | refine wE ?_ | refine wF (by omega) ?_ | ((first | refine wG ?_ | refine wH ?_ | refine wI ?_ | refine wJ ?_ | refine wK ?_ | refine wL ?_); simp (disch := omega) only [wP, wZ, undef, seval, if_pos, if_neg, aStore, frz, AV.flat, ↓reduceIte, ne_eq, reduceCtorEq, ByteArray.size]))
  refine SWp.adopt 5 none (by simp (disch := omega) only [wP, wZ, undef, seval, if_pos, if_neg, aStore, frz, AV.flat, ↓reduceIte, ne_eq, reduceCtorEq, ByteArray.size]) ?_
  refine SWp.loop (α := Nat × Nat × Nat) (fun x => mk 22 x.2.2 [(0, .sc (.int .i64 (v : Int))), (5, .own 5 x.2.1 none 0 x.1), (6, int ((n : Int) - 1 - x.1))] [(5, x.2.1, .row (nl0 x.1) (((rowB v n).take x.1).map nA))])
    (fun x => x.1 ≤ n) (fun x => n - x.1) (0, 0, 1) (Nat.zero_le _) (le_mk rfl ?_ ?_ ?_) ?_
  · exact Nat.le_refl _
  iterate 2 (case _ => simp (disch := omega) only [wP, wZ, undef, seval, if_pos, if_neg, aStore, frz, AV.flat, ↓reduceIte, ne_eq, reduceCtorEq, ByteArray.size, nl0_zero, List.take_zero])
  rintro ⟨k, g, c⟩ hk -
  simp only at hk
  have hlk : ((rowB v n).take k).length = k := by rw [List.length_take, length_rowB]; omega
  repeat (first | refine wA ?_ | refine wB ?_ | refine wC rfl ?_ | refine wD rfl ?_ | refine wE ?_ | refine wF (by omega) ?_ | ((first | refine wG ?_ | refine wH ?_ | refine wI ?_ | refine wJ ?_ | refine wK ?_ | refine wL ?_); simp (disch := omega) only [wP, wZ, undef, seval, if_pos, if_neg, aStore, frz, AV.flat, ↓reduceIte, ne_eq, reduceCtorEq, ByteArray.size]))
  refine SWp.cond rfl (fun h => ?_) (fun h => ?_)
  · simp only [decide_eq_true_eq] at h
    have hkn : k < n := by omega
    have hs := rowB_snoc (v := v) hkn
    obtain ⟨j, hj⟩ : ∃ j, j = n - 1 - k := ⟨_, rfl⟩
    have hj2 : (n : Int) - 1 - (k : Int) = (j : Int) := by omega
    have hj3 : j ≤ 15 := by omega
    have hjw : IntKind.u64.wrap (j : Int) = (j : Int) := wrap_u64_id3 (by omega) (by omega)
    obtain ⟨y, hy⟩ : ∃ y, y = v / 2 ^ j := ⟨_, rfl⟩
    rw [← hj, ← hy] at hs
    have hyv : y < 32768 := by rw [hy]; exact Nat.lt_of_le_of_lt (Nat.div_le_self _ _) hv
    repeat (first | refine wA ?_ | refine wB ?_ | refine wC rfl ?_ | refine wD rfl ?_ | refine wE ?_ | refine wF (by omega) ?_ | ((first | refine wG ?_ | refine wH ?_ | refine wI ?_ | refine wJ ?_ | refine wK ?_ | refine wL ?_); simp (disch := omega) only [wP, wZ, undef, seval, if_pos, if_neg, aStore, frz, AV.flat, ↓reduceIte, ne_eq, reduceCtorEq, ByteArray.size, hj2, hjw, ← hy, hlk, iR]))
    refine At.of (k + 1, c, c + 1) (by simp only; omega) (by simp only; omega) rfl rfl (Nat.le_refl _) ?_ ?_
    · simp (disch := omega) only [wP, wZ, undef, seval, if_pos, if_neg, aStore, frz, AV.flat, ↓reduceIte, ne_eq, reduceCtorEq, ByteArray.size]
      omega
    · simp (disch := omega) only [wP, wZ, undef, seval, if_pos, if_neg, aStore, frz, AV.flat, ↓reduceIte, ne_eq, reduceCtorEq, ByteArray.size, hs, nl0_succ, nA]
  · simp only [decide_eq_false_iff_not] at h
    obtain rfl : k = n := by omega
    have ht : (rowB v k).take k = rowB v k := List.take_of_length_le (by rw [length_rowB]; exact Nat.le_refl _)
    have hl := length_rowB (v := v) (n := k)
    rw [ht]
    repeat (first | refine wA ?_ | refine wB ?_ | refine wC rfl ?_ | refine wD rfl ?_ | refine wE ?_ | refine wF (by omega) ?_ | ((first | refine wG ?_ | refine wH ?_ | refine wI ?_ | refine wJ ?_ | refine wK ?_ | refine wL ?_); simp (disch := omega) only [wP, wZ, undef, seval, if_pos, if_neg, aStore, frz, AV.flat, ↓reduceIte, ne_eq, reduceCtorEq, ByteArray.size, iR, hl]))

/-- Is a the beginning of b? -/
def hd (a b : List Nat) : Bool := decide (a.length ≤ b.length) && decide (∀ i, i < a.length → a.getD i 0 = b.getD i 0)
set_option maxRecDepth 100000 in
theorem ref_head_c [Tabs Tryd.prog] (nla nlb : Bool) (a b : List Nat) (ha : a.length ≤ 1000) (hb : b.length ≤ 1000000) : Con Tryd.prog n_drayageref03_head [.sl nla none (a.map nA), .sl nlb none (b.map nA)] (boo (hd a b)) := by
  refine Con.of' mix Tryd.func63 rfl Tryd.ntmps63 e_drayageref03_head r_drayageref03_head (by simp) (by simp only [AV.free, AV.free.freeL, free_nA, Bool.and_self]) rfl ?_
  unfold s_drayageref03_head
  by_cases c1 : b.length < a.length
  · have d1 : decide ((b.length : Int) < (a.length : Int)) = true := decide_eq_true (by omega)
    have hh : hd a b = false := by unfold hd; rw [decide_eq_false (by omega)]; rfl
    repeat (first | refine wA ?_ | refine wB ?_ | refine wC rfl ?_ | refine wD rfl ?_ | refine wE ?_ | refine wF (by omega) ?_ | ((first | refine wG ?_ | refine wH ?_ | refine wI ?_ | refine wJ ?_ | refine wK ?_ | refine wL ?_); simp (disch := omega) only [wP, wZ, undef, seval, if_pos, if_neg, aStore, frz, AV.flat, ↓reduceIte, ne_eq, reduceCtorEq, ByteArray.size, d1, hh]))
  have d1 : decide ((b.length : Int) < (a.length : Int)) = false := decide_eq_false (by omega)
  repeat (first | refine wA ?_ | refine wB ?_ | refine wC rfl ?_ | refine wD rfl ?_ | refine wE ?_ | refine wF (by omega) ?_ | ((first | refine wG ?_ | refine wH ?_ | refine wI ?_ | refine wJ ?_ | refine wK ?_ | refine wL ?_); simp (disch := omega) only [wP, wZ, undef, seval, if_pos, if_neg, aStore, frz, AV.flat, ↓reduceIte, ne_eq, reduceCtorEq, ByteArray.size, d1]))
  refine SWp.loop (α := Nat) (fun k => mk 26 0 [(0, .sl nla none (a.map nA)), (1, .sl nlb none (b.map nA)), (5, int k)] [])
    (fun k => k ≤ a.length ∧ ∀ i, i < k → a.getD i 0 = b.getD i 0) (fun k => a.length - k) 0 ⟨Nat.zero_le _, fun _ h => by omega⟩ (le_mk rfl ?_ ?_ ?_) ?_
  · exact Nat.le_refl _
  iterate 2 (case _ => simp (disch := omega) only [wP, wZ, undef, seval, if_pos, if_neg, aStore, frz, AV.flat, ↓reduceIte, ne_eq, reduceCtorEq, ByteArray.size])
  rintro k ⟨hk, hall⟩ -
  repeat (first | refine wA ?_ | refine wB ?_ | refine wC rfl ?_ | refine wD rfl ?_ | refine wE ?_ | refine wF (by omega) ?_ | ((first | refine wG ?_ | refine wH ?_ | refine wI ?_ | refine wJ ?_ | refine wK ?_ | refine wL ?_); simp (disch := omega) only [wP, wZ, undef, seval, if_pos, if_neg, aStore, frz, AV.flat, ↓reduceIte, ne_eq, reduceCtorEq, ByteArray.size]))
  refine SWp.cond rfl (fun h => ?_) (fun h => ?_)
  · simp only [decide_eq_true_eq] at h
    have hka : k < a.length := by omega
    have hkb : k < b.length := by omega
    by_cases e : a.getD k 0 = b.getD k 0
    · have de : decide (((a.getD k 0 : Nat) : Int) = ((b.getD k 0 : Nat) : Int)) = true := decide_eq_true (by omega)
      repeat (first | refine wA ?_ | refine wB ?_ | refine wC rfl ?_ | refine wD rfl ?_ | refine wE ?_ | refine wF (by omega) ?_ | ((first | refine wG ?_ | refine wH ?_ | refine wI ?_ | refine wJ ?_ | refine wK ?_ | refine wL ?_); simp (disch := omega) only [wP, wZ, undef, seval, if_pos, if_neg, aStore, frz, AV.flat, ↓reduceIte, ne_eq, reduceCtorEq, ByteArray.size, iR, de]))
      refine At.of (k + 1) ⟨by omega, fun i hi => ?_⟩ (by omega) rfl rfl (Nat.le_refl _) ?_ ?_
      · by_cases e2 : i = k
        · subst e2; exact e
        · exact hall i (by omega)
      iterate 2 (case _ => simp (disch := omega) only [wP, wZ, undef, seval, if_pos, if_neg, aStore, frz, AV.flat, ↓reduceIte, ne_eq, reduceCtorEq, ByteArray.size])
    · have de : decide (((a.getD k 0 : Nat) : Int) = ((b.getD k 0 : Nat) : Int)) = false := decide_eq_false (by omega)
      have hh : hd a b = false := by
        unfold hd
        rw [decide_eq_false (p := ∀ i, i < a.length → a.getD i 0 = b.getD i 0) (fun h => e (h k hka))]; simp
      repeat (first | refine wA ?_ | refine wB ?_ | refine wC rfl ?_ | refine wD rfl ?_ | refine wE ?_ | refine wF (by omega) ?_ | ((first | refine wG ?_ | refine wH ?_ | refine wI ?_ | refine wJ ?_ | refine wK ?_ | refine wL ?_); simp (disch := omega) only [wP, wZ, undef, seval, if_pos, if_neg, aStore, frz, AV.flat, ↓reduceIte, ne_eq, reduceCtorEq, ByteArray.size, iR, de, hh]))
  · simp only [decide_eq_false_iff_not] at h
    obtain rfl : k = a.length := by omega
    have hh : hd a b = true := by unfold hd; rw [decide_eq_true (by omega), decide_eq_true hall]; rfl
    repeat (first | refine wA ?_ | refine wB ?_ | refine wC rfl ?_ | refine wD rfl ?_ | refine wE ?_ | refine wF (by omega) ?_ | ((first | refine wG ?_ | refine wH ?_ | refine wI ?_ | refine wJ ?_ | refine wK ?_ | refine wL ?_); simp (disch := omega) only [wP, wZ, undef, seval, if_pos, if_neg, aStore, frz, AV.flat, ↓reduceIte, ne_eq, reduceCtorEq, ByteArray.size, hh]))
end Go.Proofs.YtokdmakljdhjiaaDoor.Aw

namespace Go.Proofs.YtokdmakljdhjiaaDoor.Aw
open Go
set_option linter.unusedSimpArgs false
set_option linter.unusedVariables false

/-- The number of the first n bits, the first one the highest. -/
def topN (B : List Nat) : Nat → Nat
  | 0 => 0
  | n + 1 => 2 * topN B n + B.getD n 0
theorem getD_lt {B : List Nat} (h : ∀ x ∈ B, x < 2) (i : Nat) : B.getD i 0 < 2 := by
  by_cases hi : i < B.length
  · have : B.getD i 0 = B[i] := by simp [List.getD, List.getElem?_eq_getElem hi]
    rw [this]; exact h _ (List.getElem_mem hi)
  · simp [List.getD, List.getElem?_eq_none (by omega : B.length ≤ i)]
theorem topN_lt {B : List Nat} (h : ∀ x ∈ B, x < 2) : ∀ n, topN B n < 2 ^ n
  | 0 => by simp [topN]
  | n + 1 => by
    have h1 := topN_lt h n
    have h2 := getD_lt h n
    simp only [topN, Nat.pow_succ]; omega
theorem topN_div {B : List Nat} (h : ∀ x ∈ B, x < 2) (j : Nat) : ∀ d, topN B (j + d) / 2 ^ d = topN B j
  | 0 => by simp
  | d + 1 => by
    have h1 := topN_div h j d
    have h2 := getD_lt h (j + d)
    rw [Nat.pow_succ, Nat.mul_comm, ← Nat.div_div_eq_div_mul]
    have : topN B (j + (d + 1)) / 2 = topN B (j + d) := by show (2 * topN B (j + d) + B.getD (j + d) 0) / 2 = _; omega
    rw [this, h1]
theorem rowB_get {c n i : Nat} (h : i < n) : (rowB c n).getD i 0 = c / 2 ^ (n - 1 - i) % 2 := by simp [rowB, List.getD, h]
theorem row_top {B : List Nat} (h : ∀ x ∈ B, x < 2) {c n : Nat} (hc : c < 2 ^ n) : (∀ i, i < n → c / 2 ^ (n - 1 - i) % 2 = B.getD i 0) ↔ c = topN B n := by
  constructor
  · intro ha
    have key : ∀ j, j ≤ n → c / 2 ^ (n - j) = topN B j := by
      intro j
      induction j with
      | zero => intro _; rw [Nat.sub_zero, Nat.div_eq_of_lt hc]; rfl
      | succ j ih =>
        intro hj
        have ih := ih (by omega)
        have := ha j (by omega)
        rw [show n - 1 - j = n - (j + 1) by omega] at this
        rw [show n - j = (n - (j + 1)) + 1 by omega, Nat.pow_succ, ← Nat.div_div_eq_div_mul] at ih
        simp only [topN]; omega
    have := key n (Nat.le_refl _)
    simpa using this
  · rintro rfl i hi
    have h1 := topN_div h (i + 1) (n - 1 - i)
    rw [show i + 1 + (n - 1 - i) = n by omega] at h1
    rw [h1]
    have := getD_lt h i
    show (2 * topN B i + B.getD i 0) % 2 = _
    omega
theorem hd_row {B : List Nat} (h : ∀ x ∈ B, x < 2) {c n : Nat} (hc : c < 2 ^ n) (hn : n ≤ B.length) : hd (rowB c n) B = decide (c = topN B n) := by
  unfold hd
  rw [length_rowB, decide_eq_true hn, Bool.true_and]
  refine decide_eq_decide.2 ?_
  rw [← row_top h hc]
  constructor
  · intro ha i hi; have := ha i hi; rwa [rowB_get hi] at this
  · intro ha i hi; rw [rowB_get hi]; exact ha i hi
theorem hd_pre {B : List Nat} (h : ∀ x ∈ B, x < 2) {c n m : Nat} (hc : c < 2 ^ m) (hn : n ≤ B.length) : hd (B.take n) (rowB c m) = decide (n ≤ m ∧ c / 2 ^ (m - n) = topN B n) := by
  unfold hd
  rw [length_rowB, List.length_take, Nat.min_eq_left hn]
  by_cases hm : n ≤ m
  · rw [decide_eq_true hm, Bool.true_and]
    refine decide_eq_decide.2 ?_
    have hc2 : c / 2 ^ (m - n) < 2 ^ n := by
      rw [Nat.div_lt_iff_lt_mul (Nat.pow_pos (by omega)), ← Nat.pow_add, show n + (m - n) = m by omega]; exact hc
    rw [← row_top h hc2]
    have e : ∀ i, i < n → c / 2 ^ (m - n) / 2 ^ (n - 1 - i) % 2 = c / 2 ^ (m - 1 - i) % 2 := fun i hi => by
      rw [Nat.div_div_eq_div_mul, ← Nat.pow_add, show m - n + (n - 1 - i) = m - 1 - i by omega]
    have e2 : ∀ i, i < n → (B.take n).getD i 0 = B.getD i 0 := fun i hi => by simp only [List.getD]; rw [List.getElem?_take, if_pos hi]
    constructor
    · intro ha
      refine ⟨hm, fun i hi => ?_⟩
      have := ha i hi
      rw [e2 i hi, rowB_get (by omega)] at this
      rw [e i hi, this]
    · rintro ⟨_, ha⟩ i hi
      rw [e2 i hi, rowB_get (by omega), ← e i hi, ha i hi]
  · rw [decide_eq_false hm, Bool.false_and, decide_eq_false (fun h => hm h.1)]

/-- Is what stands there the beginning of a row of the first k symbols? -/
def bgn (l B : List Nat) (n k : Nat) : Bool := (List.range k).any fun j => decide (l.getD j 0 ≠ 0) && hd (B.take n) (rowB (codeOf l j) (l.getD j 0))
theorem bgn_succ {l B : List Nat} {n k : Nat} : bgn l B n (k + 1) = (bgn l B n k || (decide (l.getD k 0 ≠ 0) && hd (B.take n) (rowB (codeOf l k) (l.getD k 0)))) := by
  simp [bgn, List.range_succ, List.any_append]

theorem bgn_iff {l : List Nat} (h15 : ∀ x ∈ l, x ≤ 15) (hK : kraft l ≤ 32768) {B : List Nat} (hB : ∀ x ∈ B, x < 2) {n v : Nat} (hn : n ≤ B.length) (hn15 : n ≤ 15) (hv : v = topN B n) (hF : fr l n + cn l n ≤ v) : bgn l B n l.length = decide (v * 2 ^ (15 - n) < kraft l) := by
  have p15 : ∀ j, j < l.length → l.getD j 0 ≤ 15 := fun j hj => by
    have : l.getD j 0 = l[j] := by simp [List.getD, List.getElem?_eq_getElem hj]
    rw [this]; exact h15 _ (List.getElem_mem hj)
  by_cases c : v * 2 ^ (15 - n) < kraft l
  · rw [decide_eq_true c]
    have key : ∀ d, n + d ≤ 15 → (fr l (n + d) + cn l (n + d)) * 2 ^ (15 - (n + d)) ≤ v * 2 ^ (15 - n) ∨ ∃ m, n < m ∧ m ≤ 15 ∧ fr l m ≤ v * 2 ^ (m - n) ∧ v * 2 ^ (m - n) < fr l m + cn l m := by
      intro d
      induction d with
      | zero => intro _; exact .inl (Nat.mul_le_mul_right _ hF)
      | succ d ih =>
        intro hd
        rcases ih (by omega) with h | h
        · by_cases q : (fr l (n + (d + 1)) + cn l (n + (d + 1))) * 2 ^ (15 - (n + (d + 1))) ≤ v * 2 ^ (15 - n)
          · exact .inl q
          · right
            have e : v * 2 ^ (15 - n) = v * 2 ^ (n + (d + 1) - n) * 2 ^ (15 - (n + (d + 1))) := by
              rw [Nat.mul_assoc, ← Nat.pow_add]; congr 2; omega
            refine ⟨n + (d + 1), by omega, hd, ?_, ?_⟩
            · have h2 : fr l (n + (d + 1)) * 2 ^ (15 - (n + (d + 1))) ≤ v * 2 ^ (15 - n) := by
                have : fr l (n + (d + 1)) = 2 * (fr l (n + d) + cn l (n + d)) := rfl
                have hp := pow_half (n := n + d) (by omega)
                rw [this, Nat.mul_comm 2, Nat.mul_assoc]
                rw [hp] at h
                exact h
              rw [e] at h2
              exact Nat.le_of_mul_le_mul_right h2 (Nat.pow_pos (by omega))
            · have h2 : v * 2 ^ (15 - n) < (fr l (n + (d + 1)) + cn l (n + (d + 1))) * 2 ^ (15 - (n + (d + 1))) := by omega
              rw [e] at h2
              exact Nat.lt_of_mul_lt_mul_right h2
        · exact .inr h
    rcases key (15 - n) (by omega) with h | ⟨m, hm1, hm2, hm3, hm4⟩
    · rw [show n + (15 - n) = 15 by omega, Nat.sub_self, Nat.pow_zero, Nat.mul_one, ← kraft_eq h15] at h
      omega
    · have hin := in_code (l := l) (m := m) (j := v * 2 ^ (m - n) - fr l m) (by omega) (by omega)
      obtain ⟨s, hs⟩ : ∃ s, s = (syms l l.length m).getD (v * 2 ^ (m - n) - fr l m) 0 := ⟨_, rfl⟩
      rw [← hs] at hin
      obtain ⟨a1, a2, a3⟩ := hin
      have hlt := code_lt h15 hK a1 a2 (by omega) hm2
      unfold bgn
      rw [List.any_eq_true]
      refine ⟨s, List.mem_range.2 a1, ?_⟩
      rw [a2, hd_pre hB hlt hn, decide_eq_true (by omega), Bool.true_and]
      refine decide_eq_true ⟨by omega, ?_⟩
      rw [a3, show fr l m + (v * 2 ^ (m - n) - fr l m) = v * 2 ^ (m - n) by omega, Nat.mul_div_cancel _ (Nat.pow_pos (by omega)), hv]
  · rw [decide_eq_false c]
    unfold bgn
    rw [List.any_eq_false]
    intro j hj
    have hj := List.mem_range.1 hj
    by_cases h0 : l.getD j 0 = 0
    · simp only [h0]; simp
    · have hlt := code_lt h15 hK hj rfl h0 (p15 j hj)
      rw [decide_eq_true h0, Bool.true_and, hd_pre hB hlt hn]
      intro hd
      obtain ⟨a1, a2⟩ := of_decide_eq_true hd
      apply c
      obtain ⟨b1, b2, b3⟩ := code_in hj rfl h0
      have h4 := kn_le (l := l) h15 (p15 j hj)
      have h5 : v * 2 ^ (l.getD j 0 - n) ≤ codeOf l j := by rw [hv, ← a2]; exact Nat.div_mul_le_self _ _
      have e : v * 2 ^ (15 - n) = v * 2 ^ (l.getD j 0 - n) * 2 ^ (15 - l.getD j 0) := by
        have := p15 j hj
        rw [Nat.mul_assoc, ← Nat.pow_add]; congr 2; omega
      rw [e]
      refine Nat.lt_of_le_of_lt (Nat.mul_le_mul_right _ h5) (Nat.lt_of_lt_of_le (Nat.mul_lt_mul_of_pos_right ?_ (Nat.pow_pos (by omega))) h4)
      omega
end Go.Proofs.YtokdmakljdhjiaaDoor.Aw

namespace Go.Proofs.YtokdmakljdhjiaaDoor.Aw
open Go
set_option linter.unusedSimpArgs false
set_option linter.unusedVariables false

/-- The bits behind, as the reference answers them. -/
def restA (nb : Bool) (B : List Nat) (r : Nat × Nat × Nat) : AV := if r.2.2 = 2 then .sc (.slice none 0 0) else .sl nb none ((B.drop r.2.1).map nA)

set_option maxHeartbeats 1000000 in
set_option maxRecDepth 100000 in
theorem ref_Next_c [Tabs Tryd.prog] (l : List Nat) (hl : l.length ≤ 320) (h15 : ∀ x ∈ l, x ≤ 15) (hK : kraft l ≤ 32768) (nl em nb : Bool) (B : List Nat) (hBl : B.length ≤ 1000) (hB : ∀ x ∈ B, x < 2) (r : Nat × Nat × Nat) (hr : nxt l B 15 0 0 = r) :
    Con Tryd.prog n_drayageref03_Next [.sl nl none (l.map nA), .sl em none ((codesL l).map nA), .sl nb none (B.map nA)] (.agg [.sc (.int .i64 (r.1 : Int)), restA nb B r, .sc (.int .i64 (r.2.2 : Int))]) := by
  obtain ⟨C, hC⟩ : ∃ C, C = codesL l := ⟨_, rfl⟩
  have hCl : C.length = l.length := by rw [hC, length_codesL]
  have hCs : ∀ s, s < l.length → C.getD s 0 = codeOf l s := fun s hs => by
    rw [hC]; simp only [codesL, List.getD, List.getElem?_map, List.getElem?_range hs, Option.map_some, Option.getD_some]
  rw [← hC]
  refine Con.of' mix Tryd.func47 rfl Tryd.ntmps47 e_drayageref03_Next r_drayageref03_Next (by simp) (by simp only [AV.free, AV.free.freeL, free_nA, Bool.and_self]) ?_ ?_
  · have : (restA nb B r).free = true := by unfold restA; split <;> simp only [AV.free, free_nA]
    simp only [AV.free, AV.free.freeL, this, Bool.and_self]
  unfold s_drayageref03_Next
  repeat (first | refine wA ?_ | refine wB ?_ | refine wC rfl ?_ | refine wD rfl ?_ | refine wE ?_ | refine wF (by omega) ?_ | ((first | refine wG ?_ | refine wH ?_ | refine wI ?_ | refine wJ ?_ | refine wK ?_ | refine wL ?_); simp (disch := omega) only [wP, wZ, undef, seval, if_pos, if_neg, aStore, frz, AV.flat, ↓reduceIte, ne_eq, reduceCtorEq, ByteArray.size]))
  refine SWp.loop (α := Nat × Nat) (fun x => mk 73 1 [(0, .sl nl none (l.map nA)), (1, .sl em none (C.map nA)), (2, .sl nb none (B.map nA)), (6, .op 6 0 0), (7, int ((x.1 + 1 : Nat) : Int))] [(6, 0, .row false [.sc (.int .i64 0), .sc (.slice none 0 0), .sc (.int .i64 0)])])
    (fun x => x.1 ≤ 15 ∧ x.1 ≤ B.length ∧ x.2 = topN B x.1 ∧ fr l (x.1 + 1) ≤ 2 * x.2 ∧ nxt l B (15 - x.1) x.1 x.2 = r) (fun x => 15 - x.1) (0, 0) ⟨Nat.zero_le _, Nat.zero_le _, rfl, by simp [fr, cn], hr⟩ (le_mk rfl ?_ ?_ ?_) ?_
  · exact Nat.le_refl _
  iterate 2 (case _ => simp (disch := omega) only [wP, wZ, undef, seval, if_pos, if_neg, aStore, frz, AV.flat, ↓reduceIte, ne_eq, reduceCtorEq, ByteArray.size])
  rintro ⟨p, v⟩ ⟨hp, hpB, hv, hF, hx⟩ -
  simp only at hp hpB hv hF hx
  obtain ⟨n, hn⟩ : ∃ n, n = p + 1 := ⟨_, rfl⟩
  rw [← hn] at hF
  rw [← hn]
  repeat (first | refine wA ?_ | refine wB ?_ | refine wC rfl ?_ | refine wD rfl ?_ | refine wE ?_ | refine wF (by omega) ?_ | ((first | refine wG ?_ | refine wH ?_ | refine wI ?_ | refine wJ ?_ | refine wK ?_ | refine wL ?_); simp (disch := omega) only [wP, wZ, undef, seval, if_pos, if_neg, aStore, frz, AV.flat, ↓reduceIte, ne_eq, reduceCtorEq, ByteArray.size]))
  refine SWp.cond rfl (fun h => ?_) (fun h => ?_)
  · simp only [decide_eq_true_eq] at h
    have hn15 : n ≤ 15 := by omega
    obtain ⟨f, hf⟩ : ∃ f, 15 - p = f + 1 := ⟨14 - p, by omega⟩
    rw [hf, nxt, ← hn] at hx
    by_cases c0 : B.length < n
    · rw [if_pos (by omega)] at hx
      have d0 : decide ((B.length : Int) < (n : Int)) = true := decide_eq_true (by omega)
      subst hx
      repeat (first | refine wA ?_ | refine wB ?_ | refine wC rfl ?_ | refine wD rfl ?_ | refine wE ?_ | refine wF (by omega) ?_ | ((first | refine wG ?_ | refine wH ?_ | refine wI ?_ | refine wJ ?_ | refine wK ?_ | refine wL ?_); simp (disch := omega) only [wP, wZ, undef, seval, if_pos, if_neg, aStore, frz, AV.flat, ↓reduceIte, ne_eq, reduceCtorEq, ByteArray.size, d0, restA]))
    have d0 : decide ((B.length : Int) < (n : Int)) = false := decide_eq_false (by omega)
    rw [if_neg (by omega)] at hx
    have hw : 2 * v + B.getD p 0 = topN B n := by rw [hn, hv]; rfl
    rw [hw] at hx
    have hwl := topN_lt hB n
    have hfw : fr l n ≤ topN B n := by have : 2 * v ≤ topN B n := by omega
                                       omega
    obtain ⟨w, hwd⟩ : ∃ w, w = topN B n := ⟨_, rfl⟩
    rw [← hwd] at hx hwl hfw
    clear hw
    repeat (first | refine wA ?_ | refine wB ?_ | refine wC rfl ?_ | refine wD rfl ?_ | refine wE ?_ | refine wF (by omega) ?_ | ((first | refine wG ?_ | refine wH ?_ | refine wI ?_ | refine wJ ?_ | refine wK ?_ | refine wL ?_); simp (disch := omega) only [wP, wZ, undef, seval, if_pos, if_neg, aStore, frz, AV.flat, ↓reduceIte, ne_eq, reduceCtorEq, ByteArray.size, d0]))
    refine SWp.loop (α := Nat) (fun k => mk 73 1 [(0, .sl nl none (l.map nA)), (1, .sl em none (C.map nA)), (2, .sl nb none (B.map nA)), (6, .op 6 0 0), (7, int (n : Int)), (8, boo (bgn l B n k)), (9, int k)] [(6, 0, .row false [.sc (.int .i64 0), .sc (.slice none 0 0), .sc (.int .i64 0)])])
      (fun k => k ≤ l.length ∧ ∀ j, j < k → l.getD j 0 = n → codeOf l j ≠ w) (fun k => l.length - k) 0 ⟨Nat.zero_le _, fun _ h => by omega⟩ (le_mk rfl ?_ ?_ ?_) ?_
    · exact Nat.le_refl _
    · simp (disch := omega) only [wP, wZ, undef, seval, if_pos, if_neg, aStore, frz, AV.flat, ↓reduceIte, ne_eq, reduceCtorEq, ByteArray.size]
      rfl
    · simp (disch := omega) only [wP, wZ, undef, seval, if_pos, if_neg, aStore, frz, AV.flat, ↓reduceIte, ne_eq, reduceCtorEq, ByteArray.size]
    rintro k ⟨hk, hno⟩ -
    repeat (first | refine wA ?_ | refine wB ?_ | refine wC rfl ?_ | refine wD rfl ?_ | refine wE ?_ | refine wF (by omega) ?_ | ((first | refine wG ?_ | refine wH ?_ | refine wI ?_ | refine wJ ?_ | refine wK ?_ | refine wL ?_); simp (disch := omega) only [wP, wZ, undef, seval, if_pos, if_neg, aStore, frz, AV.flat, ↓reduceIte, ne_eq, reduceCtorEq, ByteArray.size]))
    refine SWp.cond rfl (fun h => ?_) (fun h => ?_)
    · simp only [decide_eq_true_eq] at h
      have hkl : k < l.length := by omega
      have hbs := bgn_succ (l := l) (B := B) (n := n) (k := k)
      have hx15 : l.getD k 0 ≤ 15 := by
        have : l.getD k 0 = l[k] := by simp [List.getD, List.getElem?_eq_getElem hkl]
        rw [this]; exact h15 _ (List.getElem_mem hkl)
      have hCk := hCs k hkl
      by_cases cz : l.getD k 0 = 0
      · have dz : decide (((l.getD k 0 : Nat) : Int) = 0) = true := decide_eq_true (by omega)
        rw [decide_eq_false (by simpa using cz), Bool.false_and, Bool.or_false] at hbs
        repeat (first | refine wA ?_ | refine wB ?_ | refine wC rfl ?_ | refine wD rfl ?_ | refine wE ?_ | refine wF (by omega) ?_ | ((first | refine wG ?_ | refine wH ?_ | refine wI ?_ | refine wJ ?_ | refine wK ?_ | refine wL ?_); simp (disch := omega) only [wP, wZ, undef, seval, if_pos, if_neg, aStore, frz, AV.flat, ↓reduceIte, ne_eq, reduceCtorEq, ByteArray.size, iR, dz]))
        refine At.of (k + 1) ⟨by omega, fun j hj hjn => ?_⟩ (by omega) rfl rfl (Nat.le_refl _) ?_ ?_
        · by_cases e : j = k
          · subst e; omega
          · exact hno j (by omega) hjn
        iterate 2 (case _ => simp (disch := omega) only [wP, wZ, undef, seval, if_pos, if_neg, aStore, frz, AV.flat, ↓reduceIte, ne_eq, reduceCtorEq, ByteArray.size, hbs])
      · have dz : decide (((l.getD k 0 : Nat) : Int) = 0) = false := decide_eq_false (by omega)
        have hlt := code_lt h15 hK hkl rfl cz hx15
        have hcin := code_in hkl rfl cz
        have hsat := syms_at (l := l) rfl cz hkl (Nat.le_refl _)
        rw [decide_eq_true (by simpa using cz), Bool.true_and] at hbs
        obtain ⟨x, hxd⟩ : ∃ x, x = l.getD k 0 := ⟨_, rfl⟩
        obtain ⟨c, hc⟩ : ∃ c, c = codeOf l k := ⟨_, rfl⟩
        rw [← hxd] at hx15 hlt hcin hsat hbs dz cz
        rw [← hc] at hlt hcin hCk hbs
        have hp2 : 2 ^ x ≤ 32768 := two_pow_le (n := x) (m := 15) hx15
        have hrow := ref_Row_c c x (by omega) hx15
        have hrl := length_rowB (v := c) (n := x)
        have hhd1 := ref_head_c (nl0 x) nb (rowB c x) B (by omega) (by omega)
        have hhd2 := ref_head_c nb (nl0 x) (B.take n) (rowB c x) (by rw [List.length_take]; omega) (by omega)
        have hp1 := hd_pre hB (n := n) hlt (by omega)
        obtain ⟨R, hR⟩ : ∃ R, R = rowB c x := ⟨_, rfl⟩
        rw [← hR] at hrow hhd1 hhd2 hbs
        have hfr1 : AV.free.freeL [.sl (nl0 x) none (R.map nA), .sl nb none (B.map nA)] = true := by simp only [AV.free, AV.free.freeL, free_nA, Bool.and_self]
        have hfr2 : AV.free.freeL [.sl nb none ((B.take n).map nA), .sl (nl0 x) none (R.map nA)] = true := by simp only [AV.free, AV.free.freeL, free_nA, Bool.and_self]
        repeat (first | refine wA ?_ | refine wB ?_ | refine wC rfl ?_ | refine wD rfl ?_ | refine wE ?_ | refine wF (by omega) ?_ | ((first | refine wG ?_ | refine wH ?_ | refine wI ?_ | refine wJ ?_ | refine wK ?_ | refine wL ?_); simp (disch := omega) only [wP, wZ, undef, seval, if_pos, if_neg, aStore, frz, AV.flat, ↓reduceIte, ne_eq, reduceCtorEq, ByteArray.size, iR, ← hxd, dz, hCk]))
        refine goC_p _ (.inl ⟨rfl, hrow⟩) ?_
        have fin2 : (x = n → c ≠ w) → ∀ j, j < k + 1 → l.getD j 0 = n → codeOf l j ≠ w := fun hne j hj hjn => by
          by_cases e : j = k
          · subst e; rw [← hc]; exact hne (by omega)
          · exact hno j (by omega) hjn
        by_cases cx : x = n
        · have dx : decide ((x : Int) = (n : Int)) = true := decide_eq_true (by omega)
          have hh := hd_row hB (c := c) (n := x) hlt (by omega)
          rw [← hR, cx, ← hwd] at hh
          rw [hh] at hhd1
          by_cases cw : c = w
          · rw [decide_eq_true cw] at hhd1
            have hres : r = (k, n, 0) := by
              rw [cx, cw] at hcin
              rw [cx] at hsat
              have hkk : w * 2 ^ (15 - n) < kraft l := Nat.lt_of_lt_of_le (Nat.mul_lt_mul_of_pos_right (by omega) (Nat.pow_pos (by omega))) (kn_le h15 hn15)
              rw [if_neg (by omega), if_pos (by omega), hcin.2.1, hsat] at hx
              exact hx.symm
            subst hres
            repeat (first | refine wA ?_ | refine wB ?_ | refine wC rfl ?_ | refine wD rfl ?_ | refine wE ?_ | refine wF (by omega) ?_ | ((first | refine wG ?_ | refine wH ?_ | refine wI ?_ | refine wJ ?_ | refine wK ?_ | refine wL ?_); simp (disch := omega) only [wP, wZ, undef, seval, if_pos, if_neg, aStore, frz, AV.flat, ↓reduceIte, ne_eq, reduceCtorEq, ByteArray.size, iR, ← hxd, dx]))
            refine goC_p _ (.inl ⟨hfr1, hhd1⟩) ?_
            repeat (first | refine wA ?_ | refine wB ?_ | refine wC rfl ?_ | refine wD rfl ?_ | refine wE ?_ | refine wF (by omega) ?_ | ((first | refine wG ?_ | refine wH ?_ | refine wI ?_ | refine wJ ?_ | refine wK ?_ | refine wL ?_); simp (disch := omega) only [wP, wZ, undef, seval, if_pos, if_neg, aStore, frz, AV.flat, ↓reduceIte, ne_eq, reduceCtorEq, ByteArray.size, iR, restA]))
          · rw [decide_eq_false cw] at hhd1
            cases hbb : bgn l B n k with
            | true =>
              rw [hbb] at hbs
              repeat (first | refine wA ?_ | refine wB ?_ | refine wC rfl ?_ | refine wD rfl ?_ | refine wE ?_ | refine wF (by omega) ?_ | ((first | refine wG ?_ | refine wH ?_ | refine wI ?_ | refine wJ ?_ | refine wK ?_ | refine wL ?_); simp (disch := omega) only [wP, wZ, undef, seval, if_pos, if_neg, aStore, frz, AV.flat, ↓reduceIte, ne_eq, reduceCtorEq, ByteArray.size, iR, ← hxd, dx, hbb]))
              refine goC_p _ (.inl ⟨hfr1, hhd1⟩) ?_
              repeat (first | refine wA ?_ | refine wB ?_ | refine wC rfl ?_ | refine wD rfl ?_ | refine wE ?_ | refine wF (by omega) ?_ | ((first | refine wG ?_ | refine wH ?_ | refine wI ?_ | refine wJ ?_ | refine wK ?_ | refine wL ?_); simp (disch := omega) only [wP, wZ, undef, seval, if_pos, if_neg, aStore, frz, AV.flat, ↓reduceIte, ne_eq, reduceCtorEq, ByteArray.size, iR, hbb]))
              refine At.of (k + 1) ⟨by omega, fin2 fun _ => cw⟩ (by omega) rfl rfl (Nat.le_refl _) ?_ ?_
              iterate 2 (case _ => simp (disch := omega) only [wP, wZ, undef, seval, if_pos, if_neg, aStore, frz, AV.flat, ↓reduceIte, ne_eq, reduceCtorEq, ByteArray.size, hbs, Bool.true_or])
            | false =>
              rw [hbb, Bool.false_or] at hbs
              repeat (first | refine wA ?_ | refine wB ?_ | refine wC rfl ?_ | refine wD rfl ?_ | refine wE ?_ | refine wF (by omega) ?_ | ((first | refine wG ?_ | refine wH ?_ | refine wI ?_ | refine wJ ?_ | refine wK ?_ | refine wL ?_); simp (disch := omega) only [wP, wZ, undef, seval, if_pos, if_neg, aStore, frz, AV.flat, ↓reduceIte, ne_eq, reduceCtorEq, ByteArray.size, iR, ← hxd, dx, hbb]))
              refine goC_p _ (.inl ⟨hfr1, hhd1⟩) ?_
              repeat (first | refine wA ?_ | refine wB ?_ | refine wC rfl ?_ | refine wD rfl ?_ | refine wE ?_ | refine wF (by omega) ?_ | ((first | refine wG ?_ | refine wH ?_ | refine wI ?_ | refine wJ ?_ | refine wK ?_ | refine wL ?_); simp (disch := omega) only [wP, wZ, undef, seval, if_pos, if_neg, aStore, frz, AV.flat, ↓reduceIte, ne_eq, reduceCtorEq, ByteArray.size, iR, hbb]))
              refine goC_p _ (.inl ⟨hfr2, hhd2⟩) ?_
              repeat (first | refine wA ?_ | refine wB ?_ | refine wC rfl ?_ | refine wD rfl ?_ | refine wE ?_ | refine wF (by omega) ?_ | ((first | refine wG ?_ | refine wH ?_ | refine wI ?_ | refine wJ ?_ | refine wK ?_ | refine wL ?_); simp (disch := omega) only [wP, wZ, undef, seval, if_pos, if_neg, aStore, frz, AV.flat, ↓reduceIte, ne_eq, reduceCtorEq, ByteArray.size, iR]))
              refine At.of (k + 1) ⟨by omega, fin2 fun _ => cw⟩ (by omega) rfl rfl (Nat.le_refl _) ?_ ?_
              iterate 2 (case _ => simp (disch := omega) only [wP, wZ, undef, seval, if_pos, if_neg, aStore, frz, AV.flat, ↓reduceIte, ne_eq, reduceCtorEq, ByteArray.size, hbs])
        · have dx : decide ((x : Int) = (n : Int)) = false := decide_eq_false (by omega)
          cases hbb : bgn l B n k with
          | true =>
            rw [hbb] at hbs
            repeat (first | refine wA ?_ | refine wB ?_ | refine wC rfl ?_ | refine wD rfl ?_ | refine wE ?_ | refine wF (by omega) ?_ | ((first | refine wG ?_ | refine wH ?_ | refine wI ?_ | refine wJ ?_ | refine wK ?_ | refine wL ?_); simp (disch := omega) only [wP, wZ, undef, seval, if_pos, if_neg, aStore, frz, AV.flat, ↓reduceIte, ne_eq, reduceCtorEq, ByteArray.size, iR, ← hxd, dx, hbb]))
            refine At.of (k + 1) ⟨by omega, fin2 fun h => absurd h cx⟩ (by omega) rfl rfl (Nat.le_refl _) ?_ ?_
            iterate 2 (case _ => simp (disch := omega) only [wP, wZ, undef, seval, if_pos, if_neg, aStore, frz, AV.flat, ↓reduceIte, ne_eq, reduceCtorEq, ByteArray.size, hbs, Bool.true_or])
          | false =>
            rw [hbb, Bool.false_or] at hbs
            repeat (first | refine wA ?_ | refine wB ?_ | refine wC rfl ?_ | refine wD rfl ?_ | refine wE ?_ | refine wF (by omega) ?_ | ((first | refine wG ?_ | refine wH ?_ | refine wI ?_ | refine wJ ?_ | refine wK ?_ | refine wL ?_); simp (disch := omega) only [wP, wZ, undef, seval, if_pos, if_neg, aStore, frz, AV.flat, ↓reduceIte, ne_eq, reduceCtorEq, ByteArray.size, iR, ← hxd, dx, hbb]))
            refine goC_p _ (.inl ⟨hfr2, hhd2⟩) ?_
            repeat (first | refine wA ?_ | refine wB ?_ | refine wC rfl ?_ | refine wD rfl ?_ | refine wE ?_ | refine wF (by omega) ?_ | ((first | refine wG ?_ | refine wH ?_ | refine wI ?_ | refine wJ ?_ | refine wK ?_ | refine wL ?_); simp (disch := omega) only [wP, wZ, undef, seval, if_pos, if_neg, aStore, frz, AV.flat, ↓reduceIte, ne_eq, reduceCtorEq, ByteArray.size, iR]))
            refine At.of (k + 1) ⟨by omega, fin2 fun h => absurd h cx⟩ (by omega) rfl rfl (Nat.le_refl _) ?_ ?_
            iterate 2 (case _ => simp (disch := omega) only [wP, wZ, undef, seval, if_pos, if_neg, aStore, frz, AV.flat, ↓reduceIte, ne_eq, reduceCtorEq, ByteArray.size, hbs])
    · simp only [decide_eq_false_iff_not] at h
      obtain rfl : k = l.length := by omega
      have hout : fr l n + cn l n ≤ w := by
        rcases Nat.lt_or_ge w (fr l n + cn l n) with q | q
        · exfalso
          have hin := in_code (l := l) (m := n) (j := w - fr l n) (by omega) (by omega)
          exact hno _ hin.1 hin.2.1 (by rw [hin.2.2]; omega)
        · exact q
      have hb := bgn_iff h15 hK hB (n := n) (by omega) hn15 hwd hout
      by_cases c1 : w * 2 ^ (15 - n) < kraft l
      · rw [decide_eq_true c1] at hb
        rw [if_neg (by omega), if_neg (by omega)] at hx
        have hnx : fr l (n + 1) ≤ 2 * w := by rw [fr]; omega
        repeat (first | refine wA ?_ | refine wB ?_ | refine wC rfl ?_ | refine wD rfl ?_ | refine wE ?_ | refine wF (by omega) ?_ | ((first | refine wG ?_ | refine wH ?_ | refine wI ?_ | refine wJ ?_ | refine wK ?_ | refine wL ?_); simp (disch := omega) only [wP, wZ, undef, seval, if_pos, if_neg, aStore, frz, AV.flat, ↓reduceIte, ne_eq, reduceCtorEq, ByteArray.size, hb]))
        refine At.of (n, w) ⟨by simp only; omega, by simp only; omega, hwd, hnx, by simp only; rw [show 15 - n = f by omega]; exact hx⟩ (by simp only; omega) rfl rfl (Nat.le_refl _) ?_ ?_
        iterate 2 (case _ => simp (disch := omega) only [wP, wZ, undef, seval, if_pos, if_neg, aStore, frz, AV.flat, ↓reduceIte, ne_eq, reduceCtorEq, ByteArray.size])
      · rw [decide_eq_false c1] at hb
        rw [if_pos (by omega)] at hx
        subst hx
        repeat (first | refine wA ?_ | refine wB ?_ | refine wC rfl ?_ | refine wD rfl ?_ | refine wE ?_ | refine wF (by omega) ?_ | ((first | refine wG ?_ | refine wH ?_ | refine wI ?_ | refine wJ ?_ | refine wK ?_ | refine wL ?_); simp (disch := omega) only [wP, wZ, undef, seval, if_pos, if_neg, aStore, frz, AV.flat, ↓reduceIte, ne_eq, reduceCtorEq, ByteArray.size, hb, iR, restA]))
  · simp only [decide_eq_false_iff_not] at h
    obtain rfl : p = 15 := by omega
    have hx : r = (0, 15, 3) := by rw [← hx]; rfl
    subst hx
    repeat (first | refine wA ?_ | refine wB ?_ | refine wC rfl ?_ | refine wD rfl ?_ | refine wE ?_ | refine wF (by omega) ?_ | ((first | refine wG ?_ | refine wH ?_ | refine wI ?_ | refine wJ ?_ | refine wK ?_ | refine wL ?_); simp (disch := omega) only [wP, wZ, undef, seval, if_pos, if_neg, aStore, frz, AV.flat, ↓reduceIte, ne_eq, reduceCtorEq, ByteArray.size, iR, restA]))
end Go.Proofs.YtokdmakljdhjiaaDoor.Aw
