/- Contracts: huff.taken, Check, Full; drayageref03.share, Check, Full. -/
import Derived.Test.YtokdmakljdhjiaaDoorPkA
namespace Go.Proofs.YtokdmakljdhjiaaDoor.Aw
open Go
set_option linter.unusedSimpArgs false
set_option linter.unusedVariables false

/-- How many rows of the greatest length begin with a row of that length. -/
def wt (n : Nat) : Nat := if n = 0 then 0 else 32768 / 2 ^ n
def kraft : List Nat → Nat
  | [] => 0
  | n :: r => wt n + kraft r
theorem kraft_append {a b : List Nat} : kraft (a ++ b) = kraft a + kraft b := by
  induction a with
  | nil => simp [kraft]
  | cons x a ih => simp only [List.cons_append, kraft, ih]; omega
theorem wt_le {n : Nat} : wt n ≤ 32768 := by
  unfold wt; split
  · omega
  · exact Nat.div_le_self _ _
theorem kraft_le {l : List Nat} : kraft l ≤ 32768 * l.length := by
  induction l with
  | nil => simp [kraft]
  | cons x l ih => simp only [kraft, List.length_cons]; have := wt_le (n := x); omega
theorem kraft_snoc {l : List Nat} {k : Nat} (h : k < l.length) : kraft (l.take (k + 1)) = kraft (l.take k) + wt (l.getD k 0) := by
  rw [snocD (d := 0) h, kraft_append]; simp [kraft]
theorem kraft_take_le {l : List Nat} {k : Nat} : kraft (l.take k) ≤ 32768 * l.length := by
  refine Nat.le_trans kraft_le (Nat.mul_le_mul_left _ ?_)
  rw [List.length_take]; omega

set_option maxRecDepth 100000 in
theorem huff_taken_c [Tabs Tryd.prog] (nl : Bool) (l : List Nat) (hl : l.length ≤ 1000) (h15 : ∀ x ∈ l, x ≤ 15) : Con Tryd.prog n_huff_taken [.sl nl none (l.map nA)] (int (kraft l : Nat)) := by
  refine Con.of' mix Tryd.func53 rfl Tryd.ntmps53 e_huff_taken r_huff_taken (by simp) (by simp only [AV.free, AV.free.freeL, free_nA, Bool.and_self]) rfl ?_
  unfold s_huff_taken
  repeat (first | refine wA ?_ | refine wB ?_ | refine wC rfl ?_ | refine wD rfl ?_ | refine wE ?_ | refine wF (by omega) ?_ | ((first | refine wG ?_ | refine wH ?_ | refine wI ?_ | refine wJ ?_ | refine wK ?_ | refine wL ?_); simp (disch := omega) only [wP, wZ, undef, seval, if_pos, if_neg, aStore, frz, AV.flat, ↓reduceIte, ne_eq, reduceCtorEq, ByteArray.size]))
  refine SWp.loop (α := Nat) (fun k => mk 20 0 [(3, int (kraft (l.take k) : Nat)), (6, .sl nl none (l.map nA)), (7, int l.length), (8, int k)] [])
    (fun k => k ≤ l.length) (fun k => l.length - k) 0 (Nat.zero_le _) (le_mk rfl ?_ ?_ ?_) ?_
  · exact Nat.le_refl _
  iterate 2 (case _ => simp (disch := omega) only [wP, wZ, undef, seval, if_pos, if_neg, aStore, frz, AV.flat, ↓reduceIte, ne_eq, reduceCtorEq, ByteArray.size, List.take_zero, kraft])
  rintro k hk -
  repeat (first | refine wA ?_ | refine wB ?_ | refine wC rfl ?_ | refine wD rfl ?_ | refine wE ?_ | refine wF (by omega) ?_ | ((first | refine wG ?_ | refine wH ?_ | refine wI ?_ | refine wJ ?_ | refine wK ?_ | refine wL ?_); simp (disch := omega) only [wP, wZ, undef, seval, if_pos, if_neg, aStore, frz, AV.flat, ↓reduceIte, ne_eq, reduceCtorEq, ByteArray.size]))
  refine SWp.cond rfl (fun h => ?_) (fun h => ?_)
  · simp only [decide_eq_true_eq] at h
    have hkl : k < l.length := by omega
    have hs := kraft_snoc hkl
    have hle := kraft_take_le (l := l) (k := k)
    have hx15 : l.getD k 0 ≤ 15 := by
      have : l.getD k 0 = l[k] := by simp [List.getD, List.getElem?_eq_getElem hkl]
      rw [this]; exact h15 _ (List.getElem_mem hkl)
    obtain ⟨x, hx⟩ : ∃ x, x = l.getD k 0 := ⟨_, rfl⟩
    rw [← hx] at hs hx15
    obtain ⟨y, hy⟩ : ∃ y, y = kraft (l.take k) := ⟨_, rfl⟩
    rw [← hy] at hs hle
    by_cases c0 : x = 0
    · subst c0
      have e : kraft (l.take (k + 1)) = y := by rw [hs]; simp [wt]
      repeat (first | refine wA ?_ | refine wB ?_ | refine wC rfl ?_ | refine wD rfl ?_ | refine wE ?_ | refine wF (by omega) ?_ | ((first | refine wG ?_ | refine wH ?_ | refine wI ?_ | refine wJ ?_ | refine wK ?_ | refine wL ?_); simp (disch := omega) only [wP, wZ, undef, seval, if_pos, if_neg, aStore, frz, AV.flat, ↓reduceIte, ne_eq, reduceCtorEq, ByteArray.size, iR, ← hx, ← hy]))
      refine At.of (k + 1) (by omega) (by omega) rfl rfl (Nat.le_refl _) ?_ ?_
      iterate 2 (case _ => simp (disch := omega) only [wP, wZ, undef, seval, if_pos, if_neg, aStore, frz, AV.flat, ↓reduceIte, ne_eq, reduceCtorEq, ByteArray.size, e])
    · have d0 : decide ((0 : Int) < (x : Int)) = true := decide_eq_true (by omega)
      have hw : wt x = 32768 / 2 ^ x := by simp [wt, c0]
      have hw2 := wt_le (n := x)
      obtain ⟨z, hz⟩ : ∃ z, z = 32768 / 2 ^ x := ⟨_, rfl⟩
      rw [← hz] at hw
      rw [hw] at hw2
      have e : kraft (l.take (k + 1)) = y + z := by rw [hs, hw]
      repeat (first | refine wA ?_ | refine wB ?_ | refine wC rfl ?_ | refine wD rfl ?_ | refine wE ?_ | refine wF (by omega) ?_ | ((first | refine wG ?_ | refine wH ?_ | refine wI ?_ | refine wJ ?_ | refine wK ?_ | refine wL ?_); simp (disch := omega) only [wP, wZ, undef, seval, if_pos, if_neg, aStore, frz, AV.flat, ↓reduceIte, ne_eq, reduceCtorEq, ByteArray.size, iR, ← hx, ← hy, d0, ← hz]))
      refine At.of (k + 1) (by omega) (by omega) rfl rfl (Nat.le_refl _) ?_ ?_
      iterate 2 (case _ => simp (disch := omega) only [wP, wZ, undef, seval, if_pos, if_neg, aStore, frz, AV.flat, ↓reduceIte, ne_eq, reduceCtorEq, ByteArray.size, e])
  · simp only [decide_eq_false_iff_not] at h
    obtain rfl : k = l.length := by omega
    repeat (first | refine wA ?_ | refine wB ?_ | refine wC rfl ?_ | refine wD rfl ?_ | refine wE ?_ | refine wF (by omega) ?_ | ((first | refine wG ?_ | refine wH ?_ | refine wI ?_ | refine wJ ?_ | refine wK ?_ | refine wL ?_); simp (disch := omega) only [wP, wZ, undef, seval, if_pos, if_neg, aStore, frz, AV.flat, ↓reduceIte, ne_eq, reduceCtorEq, ByteArray.size, List.take_length]))

set_option maxRecDepth 100000 in
theorem ref_share_c [Tabs Tryd.prog] (nl : Bool) (l : List Nat) (hl : l.length ≤ 1000) (h15 : ∀ x ∈ l, x ≤ 15) : Con Tryd.prog n_drayageref03_share [.sl nl none (l.map nA)] (int (kraft l : Nat)) := by
  refine Con.of' mix Tryd.func50 rfl Tryd.ntmps50 e_drayageref03_share r_drayageref03_share (by simp) (by simp only [AV.free, AV.free.freeL, free_nA, Bool.and_self]) rfl ?_
  unfold s_drayageref03_share
  repeat (first | refine wA ?_ | refine wB ?_ | refine wC rfl ?_ | refine wD rfl ?_ | refine wE ?_ | refine wF (by omega) ?_ | ((first | refine wG ?_ | refine wH ?_ | refine wI ?_ | refine wJ ?_ | refine wK ?_ | refine wL ?_); simp (disch := omega) only [wP, wZ, undef, seval, if_pos, if_neg, aStore, frz, AV.flat, ↓reduceIte, ne_eq, reduceCtorEq, ByteArray.size]))
  refine SWp.loop (α := Nat) (fun k => mk 32 0 [(0, .sl nl none (l.map nA)), (3, int (kraft (l.take k) : Nat)), (4, int k)] [])
    (fun k => k ≤ l.length) (fun k => l.length - k) 0 (Nat.zero_le _) (le_mk rfl ?_ ?_ ?_) ?_
  · exact Nat.le_refl _
  iterate 2 (case _ => simp (disch := omega) only [wP, wZ, undef, seval, if_pos, if_neg, aStore, frz, AV.flat, ↓reduceIte, ne_eq, reduceCtorEq, ByteArray.size, List.take_zero, kraft])
  rintro k hk -
  repeat (first | refine wA ?_ | refine wB ?_ | refine wC rfl ?_ | refine wD rfl ?_ | refine wE ?_ | refine wF (by omega) ?_ | ((first | refine wG ?_ | refine wH ?_ | refine wI ?_ | refine wJ ?_ | refine wK ?_ | refine wL ?_); simp (disch := omega) only [wP, wZ, undef, seval, if_pos, if_neg, aStore, frz, AV.flat, ↓reduceIte, ne_eq, reduceCtorEq, ByteArray.size]))
  refine SWp.cond rfl (fun h => ?_) (fun h => ?_)
  · simp only [decide_eq_true_eq] at h
    have hkl : k < l.length := by omega
    have hs := kraft_snoc hkl
    have hle := kraft_take_le (l := l) (k := k)
    have hx15 : l.getD k 0 ≤ 15 := by
      have : l.getD k 0 = l[k] := by simp [List.getD, List.getElem?_eq_getElem hkl]
      rw [this]; exact h15 _ (List.getElem_mem hkl)
    obtain ⟨x, hx⟩ : ∃ x, x = l.getD k 0 := ⟨_, rfl⟩
    rw [← hx] at hs hx15
    obtain ⟨y, hy⟩ : ∃ y, y = kraft (l.take k) := ⟨_, rfl⟩
    rw [← hy] at hs hle
    by_cases c0 : x = 0
    · subst c0
      have e : kraft (l.take (k + 1)) = y := by rw [hs]; simp [wt]
      repeat (first | refine wA ?_ | refine wB ?_ | refine wC rfl ?_ | refine wD rfl ?_ | refine wE ?_ | refine wF (by omega) ?_ | ((first | refine wG ?_ | refine wH ?_ | refine wI ?_ | refine wJ ?_ | refine wK ?_ | refine wL ?_); simp (disch := omega) only [wP, wZ, undef, seval, if_pos, if_neg, aStore, frz, AV.flat, ↓reduceIte, ne_eq, reduceCtorEq, ByteArray.size, iR, ← hx, ← hy]))
      refine At.of (k + 1) (by omega) (by omega) rfl rfl (Nat.le_refl _) ?_ ?_
      iterate 2 (case _ => simp (disch := omega) only [wP, wZ, undef, seval, if_pos, if_neg, aStore, frz, AV.flat, ↓reduceIte, ne_eq, reduceCtorEq, ByteArray.size, e])
    · have d0 : decide ((0 : Int) < (x : Int)) = true := decide_eq_true (by omega)
      have hw : wt x = 32768 / 2 ^ x := by simp [wt, c0]
      have hw2 := wt_le (n := x)
      repeat (first | refine wA ?_ | refine wB ?_ | refine wC rfl ?_ | refine wD rfl ?_ | refine wE ?_ | refine wF (by omega) ?_ | ((first | refine wG ?_ | refine wH ?_ | refine wI ?_ | refine wJ ?_ | refine wK ?_ | refine wL ?_); simp (disch := omega) only [wP, wZ, undef, seval, if_pos, if_neg, aStore, frz, AV.flat, ↓reduceIte, ne_eq, reduceCtorEq, ByteArray.size, iR, ← hx, ← hy, d0]))
      refine SWp.loop (α := Nat) (fun j => mk 32 0 [(0, .sl nl none (l.map nA)), (3, int (y : Nat)), (4, int k), (5, int (32768 / 2 ^ j : Nat)), (6, int j)] [])
        (fun j => j ≤ x) (fun j => x - j) 0 (Nat.zero_le _) (le_mk rfl ?_ ?_ ?_) ?_
      · exact Nat.le_refl _
      iterate 2 (case _ => simp (disch := omega) only [wP, wZ, undef, seval, if_pos, if_neg, aStore, frz, AV.flat, ↓reduceIte, ne_eq, reduceCtorEq, ByteArray.size, Nat.pow_zero, ← hy])
      rintro j hj -
      have hz2 : 32768 / 2 ^ j ≤ 32768 := Nat.div_le_self _ _
      have hz3 : 32768 / 2 ^ j / 2 = 32768 / 2 ^ (j + 1) := by rw [Nat.div_div_eq_div_mul, Nat.pow_succ]
      obtain ⟨z, hz⟩ : ∃ z, z = 32768 / 2 ^ j := ⟨_, rfl⟩
      rw [← hz] at hz2 hz3 ⊢
      repeat (first | refine wA ?_ | refine wB ?_ | refine wC rfl ?_ | refine wD rfl ?_ | refine wE ?_ | refine wF (by omega) ?_ | ((first | refine wG ?_ | refine wH ?_ | refine wI ?_ | refine wJ ?_ | refine wK ?_ | refine wL ?_); simp (disch := omega) only [wP, wZ, undef, seval, if_pos, if_neg, aStore, frz, AV.flat, ↓reduceIte, ne_eq, reduceCtorEq, ByteArray.size, iR, ← hx]))
      refine SWp.cond rfl (fun h => ?_) (fun h => ?_)
      · simp only [decide_eq_true_eq] at h
        repeat (first | refine wA ?_ | refine wB ?_ | refine wC rfl ?_ | refine wD rfl ?_ | refine wE ?_ | refine wF (by omega) ?_ | ((first | refine wG ?_ | refine wH ?_ | refine wI ?_ | refine wJ ?_ | refine wK ?_ | refine wL ?_); simp (disch := omega) only [wP, wZ, undef, seval, if_pos, if_neg, aStore, frz, AV.flat, ↓reduceIte, ne_eq, reduceCtorEq, ByteArray.size]))
        refine At.of (j + 1) (by omega) (by omega) rfl rfl (Nat.le_refl _) ?_ ?_
        iterate 2 (case _ => simp (disch := omega) only [wP, wZ, undef, seval, if_pos, if_neg, aStore, frz, AV.flat, ↓reduceIte, ne_eq, reduceCtorEq, ByteArray.size, hz3])
      · simp only [decide_eq_false_iff_not] at h
        obtain rfl : j = x := by omega
        rw [← hz] at hw
        rw [hw] at hw2 hs
        repeat (first | refine wA ?_ | refine wB ?_ | refine wC rfl ?_ | refine wD rfl ?_ | refine wE ?_ | refine wF (by omega) ?_ | ((first | refine wG ?_ | refine wH ?_ | refine wI ?_ | refine wJ ?_ | refine wK ?_ | refine wL ?_); simp (disch := omega) only [wP, wZ, undef, seval, if_pos, if_neg, aStore, frz, AV.flat, ↓reduceIte, ne_eq, reduceCtorEq, ByteArray.size]))
        refine At.of (k + 1) (by omega) (by omega) rfl rfl (Nat.le_refl _) ?_ ?_
        iterate 2 (case _ => simp (disch := omega) only [wP, wZ, undef, seval, if_pos, if_neg, aStore, frz, AV.flat, ↓reduceIte, ne_eq, reduceCtorEq, ByteArray.size, hs])
  · simp only [decide_eq_false_iff_not] at h
    obtain rfl : k = l.length := by omega
    repeat (first | refine wA ?_ | refine wB ?_ | refine wC rfl ?_ | refine wD rfl ?_ | refine wE ?_ | refine wF (by omega) ?_ | ((first | refine wG ?_ | refine wH ?_ | refine wI ?_ | refine wJ ?_ | refine wK ?_ | refine wL ?_); simp (disch := omega) only [wP, wZ, undef, seval, if_pos, if_neg, aStore, frz, AV.flat, ↓reduceIte, ne_eq, reduceCtorEq, ByteArray.size, List.take_length]))

/-- What is wrong with lengths. -/
def okLen (x : Int) : Bool := decide (0 ≤ x ∧ x ≤ 15)
def chk (l : List Int) : Nat := if 320 < l.length then 4 else if l.all okLen = false then 1 else if 32768 < kraft (l.map Int.toNat) then 3 else 0
theorem all_takeI {l : List Int} {p : Int → Bool} {k : Nat} (hk : k < l.length) (h : (l.take k).all p = true) : (l.take (k + 1)).all p = p (l.getD k 0) := by
  rw [snocD (d := 0) hk, List.all_append, h]; simp
theorem all_notI {l : List Int} {p : Int → Bool} {k : Nat} (hk : k < l.length) (h : p (l.getD k 0) = false) : l.all p = false := by
  rw [List.all_eq_false]
  refine ⟨l[k], List.getElem_mem hk, ?_⟩
  simp [List.getD, List.getElem?_eq_getElem hk] at h
  simp [h]
theorem okLens {l : List Int} (h : l.all okLen = true) : l.map int = (l.map Int.toNat).map nA ∧ ∀ x ∈ l.map Int.toNat, x ≤ 15 := by
  have h2 : ∀ x ∈ l, 0 ≤ x ∧ x ≤ 15 := fun x hx => of_decide_eq_true (List.all_eq_true.1 h x hx)
  constructor
  · rw [List.map_map]
    refine List.map_congr_left fun x hx => ?_
    have := h2 x hx
    show AV.sc (.int .i64 x) = AV.sc (.int .i64 ((x.toNat : Nat) : Int))
    rw [Int.toNat_of_nonneg this.1]
  · intro y hy
    obtain ⟨x, hx, rfl⟩ := List.mem_map.1 hy
    have := h2 x hx
    omega

set_option maxRecDepth 100000 in
theorem huff_Check_c [Tabs Tryd.prog] (nl : Bool) (l : List Int) (hl : l.length ≤ 1000) : Con Tryd.prog n_huff_Check [.sl nl none (l.map int)] (int (chk l : Nat)) := by
  refine Con.of' mix Tryd.func51 rfl Tryd.ntmps51 e_huff_Check r_huff_Check (by simp) (by simp only [AV.free, AV.free.freeL, free_zA, Bool.and_self]) rfl ?_
  unfold s_huff_Check
  by_cases c1 : 320 < l.length
  · have d1 : decide ((320 : Int) < (l.length : Int)) = true := decide_eq_true (by omega)
    have hc : chk l = 4 := if_pos c1
    repeat (first | refine wA ?_ | refine wB ?_ | refine wC rfl ?_ | refine wD rfl ?_ | refine wE ?_ | refine wF (by omega) ?_ | ((first | refine wG ?_ | refine wH ?_ | refine wI ?_ | refine wJ ?_ | refine wK ?_ | refine wL ?_); simp (disch := omega) only [wP, wZ, undef, seval, if_pos, if_neg, aStore, frz, AV.flat, ↓reduceIte, ne_eq, reduceCtorEq, ByteArray.size, d1, hc]))
  have d1 : decide ((320 : Int) < (l.length : Int)) = false := decide_eq_false (by omega)
  repeat (first | refine wA ?_ | refine wB ?_ | refine wC rfl ?_ | refine wD rfl ?_ | refine wE ?_ | refine wF (by omega) ?_ | ((first | refine wG ?_ | refine wH ?_ | refine wI ?_ | refine wJ ?_ | refine wK ?_ | refine wL ?_); simp (disch := omega) only [wP, wZ, undef, seval, if_pos, if_neg, aStore, frz, AV.flat, ↓reduceIte, ne_eq, reduceCtorEq, ByteArray.size, d1]))
  refine SWp.loop (α := Nat) (fun k => mk 24 0 [(0, .sl nl none (l.map int)), (8, .sl nl none (l.map int)), (9, int l.length), (10, int k)] [])
    (fun k => k ≤ l.length ∧ (l.take k).all okLen = true) (fun k => l.length - k) 0 ⟨Nat.zero_le _, by simp⟩ (le_mk rfl ?_ ?_ ?_) ?_
  · exact Nat.le_refl _
  iterate 2 (case _ => simp (disch := omega) only [wP, wZ, undef, seval, if_pos, if_neg, aStore, frz, AV.flat, ↓reduceIte, ne_eq, reduceCtorEq, ByteArray.size])
  rintro k ⟨hk, ha⟩ -
  repeat (first | refine wA ?_ | refine wB ?_ | refine wC rfl ?_ | refine wD rfl ?_ | refine wE ?_ | refine wF (by omega) ?_ | ((first | refine wG ?_ | refine wH ?_ | refine wI ?_ | refine wJ ?_ | refine wK ?_ | refine wL ?_); simp (disch := omega) only [wP, wZ, undef, seval, if_pos, if_neg, aStore, frz, AV.flat, ↓reduceIte, ne_eq, reduceCtorEq, ByteArray.size]))
  refine SWp.cond rfl (fun h => ?_) (fun h => ?_)
  · simp only [decide_eq_true_eq] at h
    have hkl : k < l.length := by omega
    have hs := all_takeI hkl ha
    have hbad := all_notI (p := okLen) hkl
    obtain ⟨x, hx⟩ : ∃ x, x = l.getD k 0 := ⟨_, rfl⟩
    rw [← hx] at hs hbad
    by_cases c2 : x < 0
    · have d2 := decide_eq_true c2
      have hc : chk l = 1 := by unfold chk; rw [if_neg c1, if_pos (hbad (decide_eq_false (by omega)))]
      repeat (first | refine wA ?_ | refine wB ?_ | refine wC rfl ?_ | refine wD rfl ?_ | refine wE ?_ | refine wF (by omega) ?_ | ((first | refine wG ?_ | refine wH ?_ | refine wI ?_ | refine wJ ?_ | refine wK ?_ | refine wL ?_); simp (disch := omega) only [wP, wZ, undef, seval, if_pos, if_neg, aStore, frz, AV.flat, ↓reduceIte, ne_eq, reduceCtorEq, ByteArray.size, iR, ← hx, d2, hc]))
    have d2 := decide_eq_false c2
    by_cases c3 : 15 < x
    · have d3 := decide_eq_true c3
      have hc : chk l = 1 := by unfold chk; rw [if_neg c1, if_pos (hbad (decide_eq_false (by omega)))]
      repeat (first | refine wA ?_ | refine wB ?_ | refine wC rfl ?_ | refine wD rfl ?_ | refine wE ?_ | refine wF (by omega) ?_ | ((first | refine wG ?_ | refine wH ?_ | refine wI ?_ | refine wJ ?_ | refine wK ?_ | refine wL ?_); simp (disch := omega) only [wP, wZ, undef, seval, if_pos, if_neg, aStore, frz, AV.flat, ↓reduceIte, ne_eq, reduceCtorEq, ByteArray.size, iR, ← hx, d2, d3, hc]))
    have d3 := decide_eq_false c3
    repeat (first | refine wA ?_ | refine wB ?_ | refine wC rfl ?_ | refine wD rfl ?_ | refine wE ?_ | refine wF (by omega) ?_ | ((first | refine wG ?_ | refine wH ?_ | refine wI ?_ | refine wJ ?_ | refine wK ?_ | refine wL ?_); simp (disch := omega) only [wP, wZ, undef, seval, if_pos, if_neg, aStore, frz, AV.flat, ↓reduceIte, ne_eq, reduceCtorEq, ByteArray.size, iR, ← hx, d2, d3]))
    refine At.of (k + 1) ⟨by omega, by rw [hs]; exact decide_eq_true (by omega)⟩ (by omega) rfl rfl (Nat.le_refl _) ?_ ?_
    iterate 2 (case _ => simp (disch := omega) only [wP, wZ, undef, seval, if_pos, if_neg, aStore, frz, AV.flat, ↓reduceIte, ne_eq, reduceCtorEq, ByteArray.size])
  · simp only [decide_eq_false_iff_not] at h
    obtain rfl : k = l.length := by omega
    rw [List.take_length] at ha
    obtain ⟨hm, h15⟩ := okLens ha
    have ht := huff_taken_c nl (l.map Int.toNat) (by rw [List.length_map]; exact hl) h15
    rw [← hm] at ht
    repeat (first | refine wA ?_ | refine wB ?_ | refine wC rfl ?_ | refine wD rfl ?_ | refine wE ?_ | refine wF (by omega) ?_ | ((first | refine wG ?_ | refine wH ?_ | refine wI ?_ | refine wJ ?_ | refine wK ?_ | refine wL ?_); simp (disch := omega) only [wP, wZ, undef, seval, if_pos, if_neg, aStore, frz, AV.flat, ↓reduceIte, ne_eq, reduceCtorEq, ByteArray.size]))
    refine goC_p _ (.inl ⟨by simp only [AV.free, AV.free.freeL, free_zA, Bool.and_self], ht⟩) ?_
    by_cases c4 : 32768 < kraft (l.map Int.toNat)
    · have d4 : decide ((32768 : Int) < (kraft (l.map Int.toNat) : Nat)) = true := decide_eq_true (by omega)
      have hc : chk l = 3 := by unfold chk; rw [if_neg c1, if_neg (by rw [ha]; simp), if_pos c4]
      repeat (first | refine wA ?_ | refine wB ?_ | refine wC rfl ?_ | refine wD rfl ?_ | refine wE ?_ | refine wF (by omega) ?_ | ((first | refine wG ?_ | refine wH ?_ | refine wI ?_ | refine wJ ?_ | refine wK ?_ | refine wL ?_); simp (disch := omega) only [wP, wZ, undef, seval, if_pos, if_neg, aStore, frz, AV.flat, ↓reduceIte, ne_eq, reduceCtorEq, ByteArray.size, d4, hc]))
    · have d4 : decide ((32768 : Int) < (kraft (l.map Int.toNat) : Nat)) = false := decide_eq_false (by omega)
      have hc : chk l = 0 := by unfold chk; rw [if_neg c1, if_neg (by rw [ha]; simp), if_neg c4]
      repeat (first | refine wA ?_ | refine wB ?_ | refine wC rfl ?_ | refine wD rfl ?_ | refine wE ?_ | refine wF (by omega) ?_ | ((first | refine wG ?_ | refine wH ?_ | refine wI ?_ | refine wJ ?_ | refine wK ?_ | refine wL ?_); simp (disch := omega) only [wP, wZ, undef, seval, if_pos, if_neg, aStore, frz, AV.flat, ↓reduceIte, ne_eq, reduceCtorEq, ByteArray.size, d4, hc]))

set_option maxRecDepth 100000 in
theorem ref_Check_c [Tabs Tryd.prog] (nl : Bool) (l : List Int) (hl : l.length ≤ 1000) : Con Tryd.prog n_drayageref03_Check [.sl nl none (l.map int)] (int (chk l : Nat)) := by
  refine Con.of' mix Tryd.func49 rfl Tryd.ntmps49 e_drayageref03_Check r_drayageref03_Check (by simp) (by simp only [AV.free, AV.free.freeL, free_zA, Bool.and_self]) rfl ?_
  unfold s_drayageref03_Check
  by_cases c1 : 320 < l.length
  · have d1 : decide ((320 : Int) < (l.length : Int)) = true := decide_eq_true (by omega)
    have hc : chk l = 4 := if_pos c1
    repeat (first | refine wA ?_ | refine wB ?_ | refine wC rfl ?_ | refine wD rfl ?_ | refine wE ?_ | refine wF (by omega) ?_ | ((first | refine wG ?_ | refine wH ?_ | refine wI ?_ | refine wJ ?_ | refine wK ?_ | refine wL ?_); simp (disch := omega) only [wP, wZ, undef, seval, if_pos, if_neg, aStore, frz, AV.flat, ↓reduceIte, ne_eq, reduceCtorEq, ByteArray.size, d1, hc]))
  have d1 : decide ((320 : Int) < (l.length : Int)) = false := decide_eq_false (by omega)
  repeat (first | refine wA ?_ | refine wB ?_ | refine wC rfl ?_ | refine wD rfl ?_ | refine wE ?_ | refine wF (by omega) ?_ | ((first | refine wG ?_ | refine wH ?_ | refine wI ?_ | refine wJ ?_ | refine wK ?_ | refine wL ?_); simp (disch := omega) only [wP, wZ, undef, seval, if_pos, if_neg, aStore, frz, AV.flat, ↓reduceIte, ne_eq, reduceCtorEq, ByteArray.size, d1]))
  refine SWp.loop (α := Nat) (fun k => mk 28 0 [(0, .sl nl none (l.map int)), (3, int k)] [])
    (fun k => k ≤ l.length ∧ (l.take k).all okLen = true) (fun k => l.length - k) 0 ⟨Nat.zero_le _, by simp⟩ (le_mk rfl ?_ ?_ ?_) ?_
  · exact Nat.le_refl _
  iterate 2 (case _ => simp (disch := omega) only [wP, wZ, undef, seval, if_pos, if_neg, aStore, frz, AV.flat, ↓reduceIte, ne_eq, reduceCtorEq, ByteArray.size])
  rintro k ⟨hk, ha⟩ -
  repeat (first | refine wA ?_ | refine wB ?_ | refine wC rfl ?_ | refine wD rfl ?_ | refine wE ?_ | refine wF (by omega) ?_ | ((first | refine wG ?_ | refine wH ?_ | refine wI ?_ | refine wJ ?_ | refine wK ?_ | refine wL ?_); simp (disch := omega) only [wP, wZ, undef, seval, if_pos, if_neg, aStore, frz, AV.flat, ↓reduceIte, ne_eq, reduceCtorEq, ByteArray.size]))
  refine SWp.cond rfl (fun h => ?_) (fun h => ?_)
  · simp only [decide_eq_true_eq] at h
    have hkl : k < l.length := by omega
    have hs := all_takeI hkl ha
    have hbad := all_notI (p := okLen) hkl
    obtain ⟨x, hx⟩ : ∃ x, x = l.getD k 0 := ⟨_, rfl⟩
    rw [← hx] at hs hbad
    by_cases c2 : x < 0
    · have d2 := decide_eq_true c2
      have hc : chk l = 1 := by unfold chk; rw [if_neg c1, if_pos (hbad (decide_eq_false (by omega)))]
      repeat (first | refine wA ?_ | refine wB ?_ | refine wC rfl ?_ | refine wD rfl ?_ | refine wE ?_ | refine wF (by omega) ?_ | ((first | refine wG ?_ | refine wH ?_ | refine wI ?_ | refine wJ ?_ | refine wK ?_ | refine wL ?_); simp (disch := omega) only [wP, wZ, undef, seval, if_pos, if_neg, aStore, frz, AV.flat, ↓reduceIte, ne_eq, reduceCtorEq, ByteArray.size, iR, ← hx, d2, hc]))
    have d2 := decide_eq_false c2
    by_cases c3 : 15 < x
    · have d3 := decide_eq_true c3
      have hc : chk l = 1 := by unfold chk; rw [if_neg c1, if_pos (hbad (decide_eq_false (by omega)))]
      repeat (first | refine wA ?_ | refine wB ?_ | refine wC rfl ?_ | refine wD rfl ?_ | refine wE ?_ | refine wF (by omega) ?_ | ((first | refine wG ?_ | refine wH ?_ | refine wI ?_ | refine wJ ?_ | refine wK ?_ | refine wL ?_); simp (disch := omega) only [wP, wZ, undef, seval, if_pos, if_neg, aStore, frz, AV.flat, ↓reduceIte, ne_eq, reduceCtorEq, ByteArray.size, iR, ← hx, d2, d3, hc]))
    have d3 := decide_eq_false c3
    repeat (first | refine wA ?_ | refine wB ?_ | refine wC rfl ?_ | refine wD rfl ?_ | refine wE ?_ | refine wF (by omega) ?_ | ((first | refine wG ?_ | refine wH ?_ | refine wI ?_ | refine wJ ?_ | refine wK ?_ | refine wL ?_); simp (disch := omega) only [wP, wZ, undef, seval, if_pos, if_neg, aStore, frz, AV.flat, ↓reduceIte, ne_eq, reduceCtorEq, ByteArray.size, iR, ← hx, d2, d3]))
    refine At.of (k + 1) ⟨by omega, by rw [hs]; exact decide_eq_true (by omega)⟩ (by omega) rfl rfl (Nat.le_refl _) ?_ ?_
    iterate 2 (case _ => simp (disch := omega) only [wP, wZ, undef, seval, if_pos, if_neg, aStore, frz, AV.flat, ↓reduceIte, ne_eq, reduceCtorEq, ByteArray.size])
  · simp only [decide_eq_false_iff_not] at h
    obtain rfl : k = l.length := by omega
    rw [List.take_length] at ha
    obtain ⟨hm, h15⟩ := okLens ha
    have ht := ref_share_c nl (l.map Int.toNat) (by rw [List.length_map]; exact hl) h15
    rw [← hm] at ht
    repeat (first | refine wA ?_ | refine wB ?_ | refine wC rfl ?_ | refine wD rfl ?_ | refine wE ?_ | refine wF (by omega) ?_ | ((first | refine wG ?_ | refine wH ?_ | refine wI ?_ | refine wJ ?_ | refine wK ?_ | refine wL ?_); simp (disch := omega) only [wP, wZ, undef, seval, if_pos, if_neg, aStore, frz, AV.flat, ↓reduceIte, ne_eq, reduceCtorEq, ByteArray.size]))
    refine goC_p _ (.inl ⟨by simp only [AV.free, AV.free.freeL, free_zA, Bool.and_self], ht⟩) ?_
    by_cases c4 : 32768 < kraft (l.map Int.toNat)
    · have d4 : decide ((32768 : Int) < (kraft (l.map Int.toNat) : Nat)) = true := decide_eq_true (by omega)
      have hc : chk l = 3 := by unfold chk; rw [if_neg c1, if_neg (by rw [ha]; simp), if_pos c4]
      repeat (first | refine wA ?_ | refine wB ?_ | refine wC rfl ?_ | refine wD rfl ?_ | refine wE ?_ | refine wF (by omega) ?_ | ((first | refine wG ?_ | refine wH ?_ | refine wI ?_ | refine wJ ?_ | refine wK ?_ | refine wL ?_); simp (disch := omega) only [wP, wZ, undef, seval, if_pos, if_neg, aStore, frz, AV.flat, ↓reduceIte, ne_eq, reduceCtorEq, ByteArray.size, d4, hc]))
    · have d4 : decide ((32768 : Int) < (kraft (l.map Int.toNat) : Nat)) = false := decide_eq_false (by omega)
      have hc : chk l = 0 := by unfold chk; rw [if_neg c1, if_neg (by rw [ha]; simp), if_neg c4]
      repeat (first | refine wA ?_ | refine wB ?_ | refine wC rfl ?_ | refine wD rfl ?_ | refine wE ?_ | refine wF (by omega) ?_ | ((first | refine wG ?_ | refine wH ?_ | refine wI ?_ | refine wJ ?_ | refine wK ?_ | refine wL ?_); simp (disch := omega) only [wP, wZ, undef, seval, if_pos, if_neg, aStore, frz, AV.flat, ↓reduceIte, ne_eq, reduceCtorEq, ByteArray.size, d4, hc]))

/-- Is nothing wrong with lengths, then they are numbers up to 15, 320 at most, that fit. -/
theorem chk_ok {l : List Int} (h : chk l = 0) : l.length ≤ 320 ∧ l.all okLen = true ∧ kraft (l.map Int.toNat) ≤ 32768 := by
  unfold chk at h
  split at h
  · omega
  · split at h
    · omega
    · rename_i h1 h2
      split at h
      · omega
      · exact ⟨by omega, by simpa using h2, by omega⟩
/-- Are lengths full? -/
def fullB (l : List Int) : Bool := decide (chk l = 0) && decide (kraft (l.map Int.toNat) = 32768)

theorem huff_Full_c [Tabs Tryd.prog] (nl : Bool) (l : List Int) (hl : l.length ≤ 1000) : Con Tryd.prog n_huff_Full [.sl nl none (l.map int)] (boo (fullB l)) := by
  refine Con.of' mix Tryd.func59 rfl Tryd.ntmps59 e_huff_Full r_huff_Full (by simp) (by simp only [AV.free, AV.free.freeL, free_zA, Bool.and_self]) rfl ?_
  unfold s_huff_Full
  have hf : AV.free.freeL [.sl nl none (l.map int)] = true := by simp only [AV.free, AV.free.freeL, free_zA, Bool.and_self]
  repeat (first | refine wA ?_ | refine wB ?_ | refine wC rfl ?_ | refine wD rfl ?_ | refine wE ?_ | refine wF (by omega) ?_ | ((first | refine wG ?_ | refine wH ?_ | refine wI ?_ | refine wJ ?_ | refine wK ?_ | refine wL ?_); simp (disch := omega) only [wP, wZ, undef, seval, if_pos, if_neg, aStore, frz, AV.flat, ↓reduceIte, ne_eq, reduceCtorEq, ByteArray.size]))
  refine goC_p _ (.inl ⟨hf, huff_Check_c nl l hl⟩) ?_
  by_cases c : chk l = 0
  · have d : decide (((chk l : Nat) : Int) = 0) = true := decide_eq_true (by omega)
    obtain ⟨h1, h2, h3⟩ := chk_ok c
    obtain ⟨hm, h15⟩ := okLens h2
    have ht := huff_taken_c nl (l.map Int.toNat) (by rw [List.length_map]; exact hl) h15
    rw [← hm] at ht
    have hb : fullB l = decide (kraft (l.map Int.toNat) = 32768) := by simp [fullB, c]
    have hd : decide (((kraft (l.map Int.toNat) : Nat) : Int) = 32768) = decide (kraft (l.map Int.toNat) = 32768) := decide_eq_decide.2 (by omega)
    repeat (first | refine wA ?_ | refine wB ?_ | refine wC rfl ?_ | refine wD rfl ?_ | refine wE ?_ | refine wF (by omega) ?_ | ((first | refine wG ?_ | refine wH ?_ | refine wI ?_ | refine wJ ?_ | refine wK ?_ | refine wL ?_); simp (disch := omega) only [wP, wZ, undef, seval, if_pos, if_neg, aStore, frz, AV.flat, ↓reduceIte, ne_eq, reduceCtorEq, ByteArray.size, d]))
    refine goC_p _ (.inl ⟨hf, ht⟩) ?_
    repeat (first | refine wA ?_ | refine wB ?_ | refine wC rfl ?_ | refine wD rfl ?_ | refine wE ?_ | refine wF (by omega) ?_ | ((first | refine wG ?_ | refine wH ?_ | refine wI ?_ | refine wJ ?_ | refine wK ?_ | refine wL ?_); simp (disch := omega) only [wP, wZ, undef, seval, if_pos, if_neg, aStore, frz, AV.flat, ↓reduceIte, ne_eq, reduceCtorEq, ByteArray.size, hb, hd]))
  · have d : decide (((chk l : Nat) : Int) = 0) = false := decide_eq_false (by omega)
    have hb : fullB l = false := by simp [fullB, c]
    repeat (first | refine wA ?_ | refine wB ?_ | refine wC rfl ?_ | refine wD rfl ?_ | refine wE ?_ | refine wF (by omega) ?_ | ((first | refine wG ?_ | refine wH ?_ | refine wI ?_ | refine wJ ?_ | refine wK ?_ | refine wL ?_); simp (disch := omega) only [wP, wZ, undef, seval, if_pos, if_neg, aStore, frz, AV.flat, ↓reduceIte, ne_eq, reduceCtorEq, ByteArray.size, d, hb]))
theorem ref_Full_c [Tabs Tryd.prog] (nl : Bool) (l : List Int) (hl : l.length ≤ 1000) : Con Tryd.prog n_drayageref03_Full [.sl nl none (l.map int)] (boo (fullB l)) := by
  refine Con.of' mix Tryd.func32 rfl Tryd.ntmps32 e_drayageref03_Full r_drayageref03_Full (by simp) (by simp only [AV.free, AV.free.freeL, free_zA, Bool.and_self]) rfl ?_
  unfold s_drayageref03_Full
  have hf : AV.free.freeL [.sl nl none (l.map int)] = true := by simp only [AV.free, AV.free.freeL, free_zA, Bool.and_self]
  repeat (first | refine wA ?_ | refine wB ?_ | refine wC rfl ?_ | refine wD rfl ?_ | refine wE ?_ | refine wF (by omega) ?_ | ((first | refine wG ?_ | refine wH ?_ | refine wI ?_ | refine wJ ?_ | refine wK ?_ | refine wL ?_); simp (disch := omega) only [wP, wZ, undef, seval, if_pos, if_neg, aStore, frz, AV.flat, ↓reduceIte, ne_eq, reduceCtorEq, ByteArray.size]))
  refine goC_p _ (.inl ⟨hf, ref_Check_c nl l hl⟩) ?_
  by_cases c : chk l = 0
  · have d : decide (((chk l : Nat) : Int) = 0) = true := decide_eq_true (by omega)
    obtain ⟨h1, h2, h3⟩ := chk_ok c
    obtain ⟨hm, h15⟩ := okLens h2
    have ht := ref_share_c nl (l.map Int.toNat) (by rw [List.length_map]; exact hl) h15
    rw [← hm] at ht
    have hb : fullB l = decide (kraft (l.map Int.toNat) = 32768) := by simp [fullB, c]
    have hd : decide (((kraft (l.map Int.toNat) : Nat) : Int) = 32768) = decide (kraft (l.map Int.toNat) = 32768) := decide_eq_decide.2 (by omega)
    repeat (first | refine wA ?_ | refine wB ?_ | refine wC rfl ?_ | refine wD rfl ?_ | refine wE ?_ | refine wF (by omega) ?_ | ((first | refine wG ?_ | refine wH ?_ | refine wI ?_ | refine wJ ?_ | refine wK ?_ | refine wL ?_); simp (disch := omega) only [wP, wZ, undef, seval, if_pos, if_neg, aStore, frz, AV.flat, ↓reduceIte, ne_eq, reduceCtorEq, ByteArray.size, d]))
    refine goC_p _ (.inl ⟨hf, ht⟩) ?_
    repeat (first | refine wA ?_ | refine wB ?_ | refine wC rfl ?_ | refine wD rfl ?_ | refine wE ?_ | refine wF (by omega) ?_ | ((first | refine wG ?_ | refine wH ?_ | refine wI ?_ | refine wJ ?_ | refine wK ?_ | refine wL ?_); simp (disch := omega) only [wP, wZ, undef, seval, if_pos, if_neg, aStore, frz, AV.flat, ↓reduceIte, ne_eq, reduceCtorEq, ByteArray.size, hb, hd]))
  · have d : decide (((chk l : Nat) : Int) = 0) = false := decide_eq_false (by omega)
    have hb : fullB l = false := by simp [fullB, c]
    repeat (first | refine wA ?_ | refine wB ?_ | refine wC rfl ?_ | refine wD rfl ?_ | refine wE ?_ | refine wF (by omega) ?_ | ((first | refine wG ?_ | refine wH ?_ | refine wI ?_ | refine wJ ?_ | refine wK ?_ | refine wL ?_); simp (disch := omega) only [wP, wZ, undef, seval, if_pos, if_neg, aStore, frz, AV.flat, ↓reduceIte, ne_eq, reduceCtorEq, ByteArray.size, d, hb]))
end Go.Proofs.YtokdmakljdhjiaaDoor.Aw

namespace Go.Proofs.YtokdmakljdhjiaaDoor.Aw
open Go
set_option linter.unusedSimpArgs false
set_option linter.unusedVariables false

/-- Sixteen numbers. -/
def r16 (f : Nat → Nat) : List Nat := (List.range 16).map f
theorem length_r16 {f : Nat → Nat} : (r16 f).length = 16 := by simp [r16]
theorem r16_get {f : Nat → Nat} {k : Nat} (h : k < 16) : (r16 f).getD k 0 = f k := by simp [r16, List.getD, h]
theorem r16_set {f g : Nat → Nat} {k x : Nat} (h : ∀ i, i < 16 → g i = if i = k then x else f i) : (r16 f).set k x = r16 g := by
  apply List.ext_getElem?
  intro i
  rw [List.getElem?_set, length_r16]
  by_cases hi : i < 16
  · have h1 : (r16 f)[i]? = some (f i) := by simp [r16, hi]
    have h2 : (r16 g)[i]? = some (g i) := by simp [r16, hi]
    rw [h1, h2, h i hi]
    by_cases e : k = i
    · subst e; simp [hi]
    · rw [if_neg e, if_neg (fun h => e h.symm)]
  · have h1 : (r16 f)[i]? = none := List.getElem?_eq_none (by rw [length_r16]; omega)
    have h2 : (r16 g)[i]? = none := List.getElem?_eq_none (by rw [length_r16]; omega)
    rw [h1, h2]
    split
    · rename_i e; subst e; rw [if_neg hi]
    · rfl
theorem r16_congr {f g : Nat → Nat} (h : ∀ i, i < 16 → f i = g i) : r16 f = r16 g := List.map_congr_left fun i hi => h i (List.mem_range.1 hi)
theorem count_snoc {l : List Nat} {k n : Nat} (h : k < l.length) : (l.take (k + 1)).count n = (l.take k).count n + (if n = l.getD k 0 then 1 else 0) := by
  rw [snocD (d := 0) h, List.count_append]
  congr 1
  by_cases e : n = l.getD k 0
  · rw [if_pos e, ← e]; simp
  · rw [if_neg e, List.count_singleton]; simp; exact fun h => e h.symm
theorem count_take_le {l : List Nat} {k n : Nat} : (l.take k).count n ≤ l.length := Nat.le_trans List.count_le_length (by rw [List.length_take]; omega)

/-- How many symbols have that length; the first row of a length. -/
def cn (l : List Nat) (n : Nat) : Nat := if n = 0 then 0 else l.count n
def fr (l : List Nat) : Nat → Nat
  | 0 => 0
  | n + 1 => 2 * (fr l n + cn l n)
theorem cn_le {l : List Nat} {n : Nat} : cn l n ≤ l.length := by
  unfold cn; split
  · omega
  · exact List.count_le_length
theorem fr_le {l : List Nat} (hl : l.length ≤ 320) : ∀ {n : Nat}, fr l n + 640 ≤ 640 * 2 ^ n
  | 0 => by simp [fr]
  | n + 1 => by
    have h1 := fr_le hl (n := n)
    have h2 := cn_le (l := l) (n := n)
    simp only [fr, Nat.pow_succ]; omega
theorem fr_lt {l : List Nat} (hl : l.length ≤ 320) {n : Nat} (hn : n ≤ 15) : fr l n ≤ 20971520 := by
  have h1 := fr_le hl (n := n)
  have h2 : 2 ^ n ≤ 32768 := two_pow_le (n := n) (m := 15) hn
  omega

set_option maxRecDepth 100000 in
theorem huff_firstRows_c [Tabs Tryd.prog] (nl : Bool) (l : List Nat) (hl : l.length ≤ 320) (h15 : ∀ x ∈ l, x ≤ 15) : Con Tryd.prog n_huff_firstRows [.sl nl none (l.map nA)] (.agg ((r16 (fr l)).map nA)) := by
  refine Con.of' mix Tryd.func52 rfl Tryd.ntmps52 e_huff_firstRows r_huff_firstRows (by simp) (by simp only [AV.free, AV.free.freeL, free_nA, Bool.and_self]) (by simp only [AV.free, free_nA]) ?_
  unfold s_huff_firstRows
  obtain ⟨Z, hZ⟩ : ∃ Z, Z = r16 fun _ => 0 := ⟨_, rfl⟩
  have hZl : Z.length = 16 := by rw [hZ, length_r16]
  have hz : (List.replicate 16 (Value.int .i64 0)).map AV.sc = Z.map nA := by rw [hZ]; rfl
  have hZd : Z.drop 16 = [] := List.drop_of_length_le (by omega)
  repeat (first | refine wA ?_ | refine wB ?_ | refine wC rfl ?_ | refine wD rfl ?_ | refine wE ?_ | refine wF (by omega) ?_ | ((first | refine wG ?_ | refine wH ?_ | refine wI ?_ | refine wJ ?_ | refine wK ?_ | refine wL ?_); simp (disch := omega) only [wP, wZ, undef, UInt8.reduceToNat, Nat.reduceOr, Nat.reduceAnd, Nat.reduceXor, Nat.reduceDiv, if_pos, if_neg, aStore, frz, AV.flat, ↓reduceIte, ne_eq, reduceCtorEq, Int.reduceToNat, Nat.reduceEqDiff, Nat.reduceAdd, Nat.reduceSub, Nat.reduceMul, Int.reduceAdd, Int.reduceMul, Int.reduceSub, Int.reduceLT, Int.reduceLE, Int.reduceEq, Int.reduceNe, Nat.reduceLeDiff, Nat.reduceLT, Int.reduceNeg, Nat.reducePow, Nat.reduceMod, ByteArray.size, hz]))
  refine SWp.loop (α := Nat) (fun k => mk 37 2 [(2, .op 2 0 0), (3, .op 3 1 0), (8, .sl nl none (l.map nA)), (9, int l.length), (10, int k)] [(2, 0, .row false (Z.map nA)), (3, 1, .row false ((r16 fun n => (l.take k).count n).map nA))])
    (fun k => k ≤ l.length) (fun k => l.length - k) 0 (Nat.zero_le _) (le_mk rfl ?_ ?_ ?_) ?_
  · exact Nat.le_refl _
  iterate 2 (case _ => simp (disch := omega) only [wP, wZ, undef, UInt8.reduceToNat, Nat.reduceOr, Nat.reduceAnd, Nat.reduceXor, Nat.reduceDiv, if_pos, if_neg, aStore, frz, AV.flat, ↓reduceIte, ne_eq, reduceCtorEq, Int.reduceToNat, Nat.reduceEqDiff, Nat.reduceAdd, Nat.reduceSub, Nat.reduceMul, Int.reduceAdd, Int.reduceMul, Int.reduceSub, Int.reduceLT, Int.reduceLE, Int.reduceEq, Int.reduceNe, Nat.reduceLeDiff, Nat.reduceLT, Int.reduceNeg, Nat.reducePow, Nat.reduceMod, ByteArray.size, List.take_zero, List.count_nil, hZ])
  rintro k hk -
  repeat (first | refine wA ?_ | refine wB ?_ | refine wC rfl ?_ | refine wD rfl ?_ | refine wE ?_ | refine wF (by omega) ?_ | ((first | refine wG ?_ | refine wH ?_ | refine wI ?_ | refine wJ ?_ | refine wK ?_ | refine wL ?_); simp (disch := omega) only [wP, wZ, undef, UInt8.reduceToNat, Nat.reduceOr, Nat.reduceAnd, Nat.reduceXor, Nat.reduceDiv, if_pos, if_neg, aStore, frz, AV.flat, ↓reduceIte, ne_eq, reduceCtorEq, Int.reduceToNat, Nat.reduceEqDiff, Nat.reduceAdd, Nat.reduceSub, Nat.reduceMul, Int.reduceAdd, Int.reduceMul, Int.reduceSub, Int.reduceLT, Int.reduceLE, Int.reduceEq, Int.reduceNe, Nat.reduceLeDiff, Nat.reduceLT, Int.reduceNeg, Nat.reducePow, Nat.reduceMod, ByteArray.size]))
  refine SWp.cond rfl (fun h => ?_) (fun h => ?_)
  · simp only [decide_eq_true_eq] at h
    have hkl : k < l.length := by omega
    have hx15 : l.getD k 0 ≤ 15 := by
      have : l.getD k 0 = l[k] := by simp [List.getD, List.getElem?_eq_getElem hkl]
      rw [this]; exact h15 _ (List.getElem_mem hkl)
    have hcs : ∀ n, (l.take (k + 1)).count n = (l.take k).count n + (if n = l.getD k 0 then 1 else 0) := fun n => count_snoc hkl
    obtain ⟨x, hx⟩ : ∃ x, x = l.getD k 0 := ⟨_, rfl⟩
    rw [← hx] at hx15 hcs
    have hg := r16_get (f := fun n => (l.take k).count n) (k := x) (by omega)
    have hcl := count_take_le (l := l) (k := k) (n := x)
    have hset := r16_set (f := fun n => (l.take k).count n) (g := fun n => (l.take (k + 1)).count n) (k := x) (x := (l.take k).count x + 1) (fun i hi => by
      show (l.take (k + 1)).count i = _
      rw [hcs]
      by_cases e : i = x
      · subst e; simp
      · simp [e])
    obtain ⟨S, hS⟩ : ∃ S, S = r16 fun n => (l.take k).count n := ⟨_, rfl⟩
    have hSl : S.length = 16 := by rw [hS, length_r16]
    obtain ⟨y, hy⟩ : ∃ y, y = (l.take k).count x := ⟨_, rfl⟩
    rw [← hS] at hset hg ⊢
    simp only [← hy] at hg hset hcl
    have hsp := splice_nA (l := S) (k := x) (x := y + 1) (by omega)
    rw [hset] at hsp
    repeat (first | refine wA ?_ | refine wB ?_ | refine wC rfl ?_ | refine wD rfl ?_ | refine wE ?_ | refine wF (by omega) ?_ | ((first | refine wG ?_ | refine wH ?_ | refine wI ?_ | refine wJ ?_ | refine wK ?_ | refine wL ?_); simp (disch := omega) only [wP, wZ, undef, UInt8.reduceToNat, Nat.reduceOr, Nat.reduceAnd, Nat.reduceXor, Nat.reduceDiv, if_pos, if_neg, aStore, frz, AV.flat, ↓reduceIte, ne_eq, reduceCtorEq, Int.reduceToNat, Nat.reduceEqDiff, Nat.reduceAdd, Nat.reduceSub, Nat.reduceMul, Int.reduceAdd, Int.reduceMul, Int.reduceSub, Int.reduceLT, Int.reduceLE, Int.reduceEq, Int.reduceNe, Nat.reduceLeDiff, Nat.reduceLT, Int.reduceNeg, Nat.reducePow, Nat.reduceMod, ByteArray.size, iR, ← hx, hg]))
    refine At.of (k + 1) (by omega) (by omega) rfl rfl (Nat.le_refl _) ?_ ?_
    · simp (disch := omega) only [wP, wZ, undef, UInt8.reduceToNat, Nat.reduceOr, Nat.reduceAnd, Nat.reduceXor, Nat.reduceDiv, if_pos, if_neg, aStore, frz, AV.flat, ↓reduceIte, ne_eq, reduceCtorEq, Int.reduceToNat, Nat.reduceEqDiff, Nat.reduceAdd, Nat.reduceSub, Nat.reduceMul, Int.reduceAdd, Int.reduceMul, Int.reduceSub, Int.reduceLT, Int.reduceLE, Int.reduceEq, Int.reduceNe, Nat.reduceLeDiff, Nat.reduceLT, Int.reduceNeg, Nat.reducePow, Nat.reduceMod, ByteArray.size]
    · simp (disch := omega) only [wP, wZ, undef, UInt8.reduceToNat, Nat.reduceOr, Nat.reduceAnd, Nat.reduceXor, Nat.reduceDiv, if_pos, if_neg, aStore, frz, AV.flat, ↓reduceIte, ne_eq, reduceCtorEq, Int.reduceToNat, Nat.reduceEqDiff, Nat.reduceAdd, Nat.reduceSub, Nat.reduceMul, Int.reduceAdd, Int.reduceMul, Int.reduceSub, Int.reduceLT, Int.reduceLE, Int.reduceEq, Int.reduceNe, Nat.reduceLeDiff, Nat.reduceLT, Int.reduceNeg, Nat.reducePow, Nat.reduceMod, ByteArray.size]
      exact hsp
  · simp only [decide_eq_false_iff_not] at h
    obtain rfl : k = l.length := by omega
    rw [List.take_length]
    have hset := r16_set (f := fun n => l.count n) (g := cn l) (k := 0) (x := 0) (fun i hi => rfl)
    obtain ⟨S0, hS0⟩ : ∃ S, S = r16 fun n => l.count n := ⟨_, rfl⟩
    have hS0l : S0.length = 16 := by rw [hS0, length_r16]
    rw [← hS0] at hset ⊢
    obtain ⟨S, hS⟩ : ∃ S, S = r16 (cn l) := ⟨_, rfl⟩
    have hSl : S.length = 16 := by rw [hS, length_r16]
    rw [← hS] at hset
    have hsp := splice_nA (l := S0) (k := 0) (x := 0) (by omega)
    rw [hset] at hsp
    simp only [List.take_zero, List.map_nil, List.nil_append] at hsp
    have hsp' : AV.sc (.int .i64 0) :: (S0.drop 1).map nA = S.map nA := hsp
    repeat (first | refine wA ?_ | refine wB ?_ | refine wC rfl ?_ | refine wD rfl ?_ | refine wE ?_ | refine wF (by omega) ?_ | ((first | refine wG ?_ | refine wH ?_ | refine wI ?_ | refine wJ ?_ | refine wK ?_ | refine wL ?_); simp (disch := omega) only [wP, wZ, undef, UInt8.reduceToNat, Nat.reduceOr, Nat.reduceAnd, Nat.reduceXor, Nat.reduceDiv, if_pos, if_neg, aStore, frz, AV.flat, ↓reduceIte, ne_eq, reduceCtorEq, Int.reduceToNat, Nat.reduceEqDiff, Nat.reduceAdd, Nat.reduceSub, Nat.reduceMul, Int.reduceAdd, Int.reduceMul, Int.reduceSub, Int.reduceLT, Int.reduceLE, Int.reduceEq, Int.reduceNe, Nat.reduceLeDiff, Nat.reduceLT, Int.reduceNeg, Nat.reducePow, Nat.reduceMod, ByteArray.size, iR, hz, hsp']))
    refine SWp.loop (α := Nat) (fun k => mk 37 3 [(2, .op 2 0 0), (3, .op 3 1 0), (6, .op 6 2 0), (21, int k)] [(2, 0, .row false (Z.map nA)), (3, 1, .row false (S.map nA)), (6, 2, .row false ((r16 fun n => if n ≤ k then fr l n else 0).map nA))])
      (fun k => k ≤ 15) (fun k => 15 - k) 0 (Nat.zero_le _) (le_mk rfl ?_ ?_ ?_) ?_
    · exact Nat.le_refl _
    · simp (disch := omega) only [wP, wZ, undef, UInt8.reduceToNat, Nat.reduceOr, Nat.reduceAnd, Nat.reduceXor, Nat.reduceDiv, if_pos, if_neg, aStore, frz, AV.flat, ↓reduceIte, ne_eq, reduceCtorEq, Int.reduceToNat, Nat.reduceEqDiff, Nat.reduceAdd, Nat.reduceSub, Nat.reduceMul, Int.reduceAdd, Int.reduceMul, Int.reduceSub, Int.reduceLT, Int.reduceLE, Int.reduceEq, Int.reduceNe, Nat.reduceLeDiff, Nat.reduceLT, Int.reduceNeg, Nat.reducePow, Nat.reduceMod, ByteArray.size]
    · simp (disch := omega) only [wP, wZ, undef, UInt8.reduceToNat, Nat.reduceOr, Nat.reduceAnd, Nat.reduceXor, Nat.reduceDiv, if_pos, if_neg, aStore, frz, AV.flat, ↓reduceIte, ne_eq, reduceCtorEq, Int.reduceToNat, Nat.reduceEqDiff, Nat.reduceAdd, Nat.reduceSub, Nat.reduceMul, Int.reduceAdd, Int.reduceMul, Int.reduceSub, Int.reduceLT, Int.reduceLE, Int.reduceEq, Int.reduceNe, Nat.reduceLeDiff, Nat.reduceLT, Int.reduceNeg, Nat.reducePow, Nat.reduceMod, ByteArray.size]
      rw [hZ]
      exact congrArg (List.map nA) (r16_congr fun i _ => by
        by_cases e : i ≤ 0
        · obtain rfl : i = 0 := by omega
          rfl
        · rw [if_neg e])
    rintro k hk -
    repeat (first | refine wA ?_ | refine wB ?_ | refine wC rfl ?_ | refine wD rfl ?_ | refine wE ?_ | refine wF (by omega) ?_ | ((first | refine wG ?_ | refine wH ?_ | refine wI ?_ | refine wJ ?_ | refine wK ?_ | refine wL ?_); simp (disch := omega) only [wP, wZ, undef, UInt8.reduceToNat, Nat.reduceOr, Nat.reduceAnd, Nat.reduceXor, Nat.reduceDiv, if_pos, if_neg, aStore, frz, AV.flat, ↓reduceIte, ne_eq, reduceCtorEq, Int.reduceToNat, Nat.reduceEqDiff, Nat.reduceAdd, Nat.reduceSub, Nat.reduceMul, Int.reduceAdd, Int.reduceMul, Int.reduceSub, Int.reduceLT, Int.reduceLE, Int.reduceEq, Int.reduceNe, Nat.reduceLeDiff, Nat.reduceLT, Int.reduceNeg, Nat.reducePow, Nat.reduceMod, ByteArray.size]))
    refine SWp.cond rfl (fun h => ?_) (fun h => ?_)
    · simp only [decide_eq_true_eq] at h
      have hk15 : k < 15 := by omega
      have hg := r16_get (f := fun n => if n ≤ k then fr l n else 0) (k := k) (by omega)
      rw [if_pos (Nat.le_refl _)] at hg
      have hgs : S.getD k 0 = cn l k := by rw [hS]; exact r16_get (by omega)
      have hfl := fr_lt hl (n := k) (by omega)
      have hcl := cn_le (l := l) (n := k)
      have hset := r16_set (f := fun n => if n ≤ k then fr l n else 0) (g := fun n => if n ≤ k + 1 then fr l n else 0) (k := k + 1) (x := (fr l k + cn l k) * 2) (fun i hi => by
        show (if i ≤ k + 1 then fr l i else 0) = if i = k + 1 then _ else if i ≤ k then fr l i else 0
        by_cases e : i = k + 1
        · subst e; rw [if_pos (Nat.le_refl _), if_pos rfl, fr, Nat.mul_comm]
        · rw [if_neg e]
          by_cases e2 : i ≤ k
          · rw [if_pos e2, if_pos (by omega)]
          · rw [if_neg e2, if_neg (by omega)])
      obtain ⟨G, hG⟩ : ∃ G, G = r16 fun n => if n ≤ k then fr l n else 0 := ⟨_, rfl⟩
      have hGl : G.length = 16 := by rw [hG, length_r16]
      obtain ⟨x, hx⟩ : ∃ x, x = fr l k := ⟨_, rfl⟩
      obtain ⟨y, hy⟩ : ∃ y, y = cn l k := ⟨_, rfl⟩
      rw [← hx] at hg hfl hset
      rw [← hy] at hgs hcl hset
      rw [← hG] at hset hg ⊢
      have hsp := splice_nA (l := G) (k := k + 1) (x := (x + y) * 2) (by omega)
      rw [hset] at hsp
      repeat (first | refine wA ?_ | refine wB ?_ | refine wC rfl ?_ | refine wD rfl ?_ | refine wE ?_ | refine wF (by omega) ?_ | ((first | refine wG ?_ | refine wH ?_ | refine wI ?_ | refine wJ ?_ | refine wK ?_ | refine wL ?_); simp (disch := omega) only [wP, wZ, undef, UInt8.reduceToNat, Nat.reduceOr, Nat.reduceAnd, Nat.reduceXor, Nat.reduceDiv, if_pos, if_neg, aStore, frz, AV.flat, ↓reduceIte, ne_eq, reduceCtorEq, Int.reduceToNat, Nat.reduceEqDiff, Nat.reduceAdd, Nat.reduceSub, Nat.reduceMul, Int.reduceAdd, Int.reduceMul, Int.reduceSub, Int.reduceLT, Int.reduceLE, Int.reduceEq, Int.reduceNe, Nat.reduceLeDiff, Nat.reduceLT, Int.reduceNeg, Nat.reducePow, Nat.reduceMod, ByteArray.size, iR, hg, hgs]))
      refine At.of (k + 1) (by omega) (by omega) rfl rfl (Nat.le_refl _) ?_ ?_
      · simp (disch := omega) only [wP, wZ, undef, UInt8.reduceToNat, Nat.reduceOr, Nat.reduceAnd, Nat.reduceXor, Nat.reduceDiv, if_pos, if_neg, aStore, frz, AV.flat, ↓reduceIte, ne_eq, reduceCtorEq, Int.reduceToNat, Nat.reduceEqDiff, Nat.reduceAdd, Nat.reduceSub, Nat.reduceMul, Int.reduceAdd, Int.reduceMul, Int.reduceSub, Int.reduceLT, Int.reduceLE, Int.reduceEq, Int.reduceNe, Nat.reduceLeDiff, Nat.reduceLT, Int.reduceNeg, Nat.reducePow, Nat.reduceMod, ByteArray.size]
      · simp (disch := omega) only [wP, wZ, undef, UInt8.reduceToNat, Nat.reduceOr, Nat.reduceAnd, Nat.reduceXor, Nat.reduceDiv, if_pos, if_neg, aStore, frz, AV.flat, ↓reduceIte, ne_eq, reduceCtorEq, Int.reduceToNat, Nat.reduceEqDiff, Nat.reduceAdd, Nat.reduceSub, Nat.reduceMul, Int.reduceAdd, Int.reduceMul, Int.reduceSub, Int.reduceLT, Int.reduceLE, Int.reduceEq, Int.reduceNe, Nat.reduceLeDiff, Nat.reduceLT, Int.reduceNeg, Nat.reducePow, Nat.reduceMod, ByteArray.size]
        exact hsp
    · simp only [decide_eq_false_iff_not] at h
      obtain rfl : k = 15 := by omega
      have hr : (r16 fun n => if n ≤ 15 then fr l n else 0) = r16 (fr l) := r16_congr fun i hi => if_pos (by omega)
      rw [hr]
      obtain ⟨F, hF⟩ : ∃ F, F = r16 (fr l) := ⟨_, rfl⟩
      have hFl : F.length = 16 := by rw [hF, length_r16]
      rw [← hF]
      repeat (first | refine wA ?_ | refine wB ?_ | refine wC rfl ?_ | refine wD rfl ?_ | refine wE ?_ | refine wF (by omega) ?_ | ((first | refine wG ?_ | refine wH ?_ | refine wI ?_ | refine wJ ?_ | refine wK ?_ | refine wL ?_); simp (disch := omega) only [wP, wZ, undef, UInt8.reduceToNat, Nat.reduceOr, Nat.reduceAnd, Nat.reduceXor, Nat.reduceDiv, if_pos, if_neg, aStore, frz, AV.flat, ↓reduceIte, ne_eq, reduceCtorEq, Int.reduceToNat, Nat.reduceEqDiff, Nat.reduceAdd, Nat.reduceSub, Nat.reduceMul, Int.reduceAdd, Int.reduceMul, Int.reduceSub, Int.reduceLT, Int.reduceLE, Int.reduceEq, Int.reduceNe, Nat.reduceLeDiff, Nat.reduceLT, Int.reduceNeg, Nat.reducePow, Nat.reduceMod, ByteArray.size, iR, hFl, hZd]))

/-- A symbol's row. -/
def codeOf (l : List Nat) (i : Nat) : Nat := if l.getD i 0 = 0 then 0 else fr l (l.getD i 0) + (l.take i).count (l.getD i 0)
def codesL (l : List Nat) : List Nat := (List.range l.length).map (codeOf l)
theorem length_codesL {l : List Nat} : (codesL l).length = l.length := by simp [codesL]
theorem zerosN {n : Nat} : (List.replicate n [AV.sc (.int .i64 0)]).flatten = (List.replicate n 0).map nA := by
  induction n with
  | zero => rfl
  | succ n ih => simp only [List.replicate_succ, List.flatten_cons, ih, List.map_cons]; rfl
/-- The next rows by length, behind k symbols. -/
def nxK (l : List Nat) (k : Nat) (n : Nat) : Nat := if n = 0 then 0 else fr l n + (l.take k).count n

/-- The reference's rows on their way: all of shorter lengths, and of length n those of the first k symbols. -/
def st (l : List Nat) (n k : Nat) : List Nat := (List.range l.length).map fun i => if l.getD i 0 < n ∨ (l.getD i 0 = n ∧ i < k) then codeOf l i else l.getD i 0
theorem length_st {l : List Nat} {n k : Nat} : (st l n k).length = l.length := by simp [st]
theorem st_zero {l : List Nat} : st l 0 0 = l := by
  apply List.ext_getElem?
  intro i
  by_cases h : i < l.length
  · simp [st, h, List.getD]
  · rw [List.getElem?_eq_none (by rw [length_st]; omega), List.getElem?_eq_none (by omega)]
theorem st_next {l : List Nat} {n : Nat} : st l n l.length = st l (n + 1) 0 := by
  refine List.map_congr_left fun i hi => ?_
  have := List.mem_range.1 hi
  by_cases e : l.getD i 0 < n ∨ (l.getD i 0 = n ∧ i < l.length)
  · rw [if_pos e, if_pos (by omega)]
  · rw [if_neg e, if_neg (by omega)]
theorem st_all {l : List Nat} (h15 : ∀ x ∈ l, x ≤ 15) : st l 16 0 = codesL l := by
  refine List.map_congr_left fun i hi => ?_
  have hi := List.mem_range.1 hi
  have : l.getD i 0 = l[i] := by simp [List.getD, List.getElem?_eq_getElem hi]
  have := h15 _ (List.getElem_mem hi)
  rw [if_pos (by omega)]
theorem st_same {l : List Nat} {n k : Nat} (h : l.getD k 0 ≠ n) : st l n (k + 1) = st l n k := by
  refine List.map_congr_left fun i hi => ?_
  by_cases e : i = k
  · subst e
    by_cases e2 : l.getD i 0 < n
    · rw [if_pos (by omega), if_pos (by omega)]
    · rw [if_neg (by omega), if_neg (by omega)]
  · by_cases e2 : l.getD i 0 < n ∨ (l.getD i 0 = n ∧ i < k)
    · rw [if_pos (by omega), if_pos e2]
    · rw [if_neg (by omega), if_neg e2]
theorem st_set {l : List Nat} {n k : Nat} (hk : k < l.length) (h : l.getD k 0 = n) : (st l n k).set k (codeOf l k) = st l n (k + 1) := by
  apply List.ext_getElem?
  intro i
  rw [List.getElem?_set, length_st]
  by_cases hi : i < l.length
  · have h1 : (st l n k)[i]? = some (if l.getD i 0 < n ∨ (l.getD i 0 = n ∧ i < k) then codeOf l i else l.getD i 0) := by simp [st, hi]
    have h2 : (st l n (k + 1))[i]? = some (if l.getD i 0 < n ∨ (l.getD i 0 = n ∧ i < k + 1) then codeOf l i else l.getD i 0) := by simp [st, hi]
    rw [h1, h2]
    by_cases e : k = i
    · subst e; rw [if_pos rfl, if_pos hk, if_pos (by omega)]
    · rw [if_neg e]
      by_cases e2 : l.getD i 0 < n ∨ (l.getD i 0 = n ∧ i < k)
      · rw [if_pos e2, if_pos (by omega)]
      · rw [if_neg e2, if_neg (by omega)]
  · have h1 : (st l n k)[i]? = none := List.getElem?_eq_none (by rw [length_st]; omega)
    have h2 : (st l n (k + 1))[i]? = none := List.getElem?_eq_none (by rw [length_st]; omega)
    rw [h1, h2, if_neg (by omega)]

set_option maxRecDepth 100000 in
theorem ref_Codes_c [Tabs Tryd.prog] (nl : Bool) (li : List Int) (hc : chk li = 0) (l : List Nat) (hli : l = li.map Int.toNat) : Con Tryd.prog n_drayageref03_Codes [.sl nl none (li.map int)] (.tup [.sl l.isEmpty none ((codesL l).map nA), int 0]) := by
  obtain ⟨hlen, ha, hK⟩ := chk_ok hc
  obtain ⟨hm, h15⟩ := okLens ha
  rw [← hli] at hm h15 hK
  have hl : l.length ≤ 320 := by rw [hli, List.length_map]; exact hlen
  have hchk := ref_Check_c nl li (by omega)
  rw [hm, hc] at hchk
  rw [hm]
  clear hm ha hc
  refine Con.of' mix Tryd.func31 rfl Tryd.ntmps31 e_drayageref03_Codes r_drayageref03_Codes (by simp) (by simp only [AV.free, AV.free.freeL, free_nA, Bool.and_self]) (by simp only [AV.free, AV.free.freeL, free_nA, int, Bool.and_self]) ?_
  unfold s_drayageref03_Codes
  have hf : AV.free.freeL [.sl nl none (l.map nA)] = true := by simp only [AV.free, AV.free.freeL, free_nA, Bool.and_self]
  obtain ⟨em, hem⟩ : ∃ em, em = l.isEmpty := ⟨_, rfl⟩
  have hem2 : (l.map nA).isEmpty = em := by rw [hem]; cases l <;> rfl
  rw [← hem]
  repeat (first | refine wA ?_ | refine wB ?_ | refine wC rfl ?_ | refine wD rfl ?_ | refine wE ?_ | refine wF (by omega) ?_ | ((first | refine wG ?_ | refine wH ?_ | refine wI ?_ | refine wJ ?_ | refine wK ?_ | refine wL ?_); simp (disch := omega) only [wP, wZ, undef, UInt8.reduceToNat, Nat.reduceOr, Nat.reduceAnd, Nat.reduceXor, Nat.reduceDiv, if_pos, if_neg, aStore, frz, AV.flat, ↓reduceIte, ne_eq, reduceCtorEq, Int.reduceToNat, Nat.reduceEqDiff, Nat.reduceAdd, Nat.reduceSub, Nat.reduceMul, Int.reduceAdd, Int.reduceMul, Int.reduceSub, Int.reduceLT, Int.reduceLE, Int.reduceEq, Int.reduceNe, Nat.reduceLeDiff, Nat.reduceLT, Int.reduceNeg, Nat.reducePow, Nat.reduceMod, ByteArray.size]))
  refine goC_p _ (.inl ⟨hf, hchk⟩) ?_
  repeat (first | refine wA ?_ | refine wB ?_ | refine wC rfl ?_ | refine wD rfl ?_ | refine wE ?_ | refine wF (by omega) ?_ | ((first | refine wG ?_ | refine wH ?_ | refine wI ?_ | refine wJ ?_ | refine wK ?_ | refine wL ?_); simp (disch := omega) only [wP, wZ, undef, UInt8.reduceToNat, Nat.reduceOr, Nat.reduceAnd, Nat.reduceXor, Nat.reduceDiv, if_pos, if_neg, aStore, frz, AV.flat, ↓reduceIte, ne_eq, reduceCtorEq, Int.reduceToNat, Nat.reduceEqDiff, Nat.reduceAdd, Nat.reduceSub, Nat.reduceMul, Int.reduceAdd, Int.reduceMul, Int.reduceSub, Int.reduceLT, Int.reduceLE, Int.reduceEq, Int.reduceNe, Nat.reduceLeDiff, Nat.reduceLT, Int.reduceNeg, Nat.reducePow, Nat.reduceMod, ByteArray.size, iR, hem2]))
  refine SWp.loop (α := Nat) (fun n => mk 47 1 [(0, .sl nl none (l.map nA)), (5, .own 16 0 none 0 l.length), (6, int (fr l n : Nat)), (7, int n)] [(16, 0, .row em ((st l n 0).map nA))])
    (fun n => n ≤ 16) (fun n => 16 - n) 0 (Nat.zero_le _) (le_mk rfl ?_ ?_ ?_) ?_
  · exact Nat.le_refl _
  iterate 2 (case _ => simp (disch := omega) only [wP, wZ, undef, UInt8.reduceToNat, Nat.reduceOr, Nat.reduceAnd, Nat.reduceXor, Nat.reduceDiv, if_pos, if_neg, aStore, frz, AV.flat, ↓reduceIte, ne_eq, reduceCtorEq, Int.reduceToNat, Nat.reduceEqDiff, Nat.reduceAdd, Nat.reduceSub, Nat.reduceMul, Int.reduceAdd, Int.reduceMul, Int.reduceSub, Int.reduceLT, Int.reduceLE, Int.reduceEq, Int.reduceNe, Nat.reduceLeDiff, Nat.reduceLT, Int.reduceNeg, Nat.reducePow, Nat.reduceMod, ByteArray.size, fr, st_zero])
  rintro n hn -
  repeat (first | refine wA ?_ | refine wB ?_ | refine wC rfl ?_ | refine wD rfl ?_ | refine wE ?_ | refine wF (by omega) ?_ | ((first | refine wG ?_ | refine wH ?_ | refine wI ?_ | refine wJ ?_ | refine wK ?_ | refine wL ?_); simp (disch := omega) only [wP, wZ, undef, UInt8.reduceToNat, Nat.reduceOr, Nat.reduceAnd, Nat.reduceXor, Nat.reduceDiv, if_pos, if_neg, aStore, frz, AV.flat, ↓reduceIte, ne_eq, reduceCtorEq, Int.reduceToNat, Nat.reduceEqDiff, Nat.reduceAdd, Nat.reduceSub, Nat.reduceMul, Int.reduceAdd, Int.reduceMul, Int.reduceSub, Int.reduceLT, Int.reduceLE, Int.reduceEq, Int.reduceNe, Nat.reduceLeDiff, Nat.reduceLT, Int.reduceNeg, Nat.reducePow, Nat.reduceMod, ByteArray.size]))
  refine SWp.cond rfl (fun h => ?_) (fun h => ?_)
  · simp only [decide_eq_true_eq] at h
    have hn15 : n ≤ 15 := by omega
    have hfl := fr_lt hl (n := n) hn15
    repeat (first | refine wA ?_ | refine wB ?_ | refine wC rfl ?_ | refine wD rfl ?_ | refine wE ?_ | refine wF (by omega) ?_ | ((first | refine wG ?_ | refine wH ?_ | refine wI ?_ | refine wJ ?_ | refine wK ?_ | refine wL ?_); simp (disch := omega) only [wP, wZ, undef, UInt8.reduceToNat, Nat.reduceOr, Nat.reduceAnd, Nat.reduceXor, Nat.reduceDiv, if_pos, if_neg, aStore, frz, AV.flat, ↓reduceIte, ne_eq, reduceCtorEq, Int.reduceToNat, Nat.reduceEqDiff, Nat.reduceAdd, Nat.reduceSub, Nat.reduceMul, Int.reduceAdd, Int.reduceMul, Int.reduceSub, Int.reduceLT, Int.reduceLE, Int.reduceEq, Int.reduceNe, Nat.reduceLeDiff, Nat.reduceLT, Int.reduceNeg, Nat.reducePow, Nat.reduceMod, ByteArray.size]))
    refine SWp.loop (α := Nat) (fun k => mk 47 1 [(0, .sl nl none (l.map nA)), (5, .own 16 0 none 0 l.length), (6, int (nxK l k n : Nat)), (7, int n), (8, int k)] [(16, 0, .row em ((st l n k).map nA))])
      (fun k => k ≤ l.length) (fun k => l.length - k) 0 (Nat.zero_le _) (le_mk rfl ?_ ?_ ?_) ?_
    · exact Nat.le_refl _
    · simp (disch := omega) only [wP, wZ, undef, UInt8.reduceToNat, Nat.reduceOr, Nat.reduceAnd, Nat.reduceXor, Nat.reduceDiv, if_pos, if_neg, aStore, frz, AV.flat, ↓reduceIte, ne_eq, reduceCtorEq, Int.reduceToNat, Nat.reduceEqDiff, Nat.reduceAdd, Nat.reduceSub, Nat.reduceMul, Int.reduceAdd, Int.reduceMul, Int.reduceSub, Int.reduceLT, Int.reduceLE, Int.reduceEq, Int.reduceNe, Nat.reduceLeDiff, Nat.reduceLT, Int.reduceNeg, Nat.reducePow, Nat.reduceMod, ByteArray.size]
      have : nxK l 0 n = fr l n := by
        unfold nxK
        by_cases e : n = 0
        · subst e; rfl
        · rw [if_neg e]; simp
      rw [this]
    · simp (disch := omega) only [wP, wZ, undef, UInt8.reduceToNat, Nat.reduceOr, Nat.reduceAnd, Nat.reduceXor, Nat.reduceDiv, if_pos, if_neg, aStore, frz, AV.flat, ↓reduceIte, ne_eq, reduceCtorEq, Int.reduceToNat, Nat.reduceEqDiff, Nat.reduceAdd, Nat.reduceSub, Nat.reduceMul, Int.reduceAdd, Int.reduceMul, Int.reduceSub, Int.reduceLT, Int.reduceLE, Int.reduceEq, Int.reduceNe, Nat.reduceLeDiff, Nat.reduceLT, Int.reduceNeg, Nat.reducePow, Nat.reduceMod, ByteArray.size]
    rintro k hk -
    have hcl := count_take_le (l := l) (k := k) (n := n)
    have hyl : nxK l k n ≤ 20971840 := by
      unfold nxK
      split
      · omega
      · omega
    repeat (first | refine wA ?_ | refine wB ?_ | refine wC rfl ?_ | refine wD rfl ?_ | refine wE ?_ | refine wF (by omega) ?_ | ((first | refine wG ?_ | refine wH ?_ | refine wI ?_ | refine wJ ?_ | refine wK ?_ | refine wL ?_); simp (disch := omega) only [wP, wZ, undef, UInt8.reduceToNat, Nat.reduceOr, Nat.reduceAnd, Nat.reduceXor, Nat.reduceDiv, if_pos, if_neg, aStore, frz, AV.flat, ↓reduceIte, ne_eq, reduceCtorEq, Int.reduceToNat, Nat.reduceEqDiff, Nat.reduceAdd, Nat.reduceSub, Nat.reduceMul, Int.reduceAdd, Int.reduceMul, Int.reduceSub, Int.reduceLT, Int.reduceLE, Int.reduceEq, Int.reduceNe, Nat.reduceLeDiff, Nat.reduceLT, Int.reduceNeg, Nat.reducePow, Nat.reduceMod, ByteArray.size]))
    refine SWp.cond rfl (fun h => ?_) (fun h => ?_)
    · simp only [decide_eq_true_eq] at h
      have hkl : k < l.length := by omega
      have hcs := count_snoc (n := n) hkl
      have hsm := st_same (l := l) (n := n) (k := k)
      have hst := st_set (n := n) hkl
      have hcd : l.getD k 0 = n → codeOf l k = nxK l k n := fun h => by unfold codeOf nxK; rw [h]
      obtain ⟨x, hx⟩ : ∃ x, x = l.getD k 0 := ⟨_, rfl⟩
      rw [← hx] at hcs hsm hst hcd
      obtain ⟨C, hC⟩ : ∃ C, C = st l n k := ⟨_, rfl⟩
      have hCl : C.length = l.length := by rw [hC, length_st]
      rw [← hC] at hst hsm ⊢
      by_cases c0 : x = n
      · have d0 : decide ((x : Int) = (n : Int)) = true := decide_eq_true (by omega)
        have hst := hst c0
        rw [hcd c0] at hst
        by_cases cn : n = 0
        · have dn : decide ((0 : Int) < (n : Int)) = false := decide_eq_false (by omega)
          have hy0 : nxK l k n = 0 := by unfold nxK; rw [if_pos cn]
          have hy1 : nxK l (k + 1) n = 0 := by unfold nxK; rw [if_pos cn]
          rw [hy0] at hst ⊢
          have hsp := splice_nA (l := C) (k := k) (x := 0) (by omega)
          rw [hst] at hsp
          have hCl2 : (st l n (k + 1)).length = l.length := length_st
          have hss : (st l n (k + 1)).set k 0 = st l n (k + 1) := by rw [← hst, List.set_set]
          have hsp2 := splice_nA (l := st l n (k + 1)) (k := k) (x := 0) (by omega)
          rw [hss] at hsp2
          have hsp' : (C.take k).map nA ++ AV.sc (.int .i64 0) :: (C.drop (k + 1)).map nA = (st l n (k + 1)).map nA := hsp
          repeat (first | refine wA ?_ | refine wB ?_ | refine wC rfl ?_ | refine wD rfl ?_ | refine wE ?_ | refine wF (by omega) ?_ | ((first | refine wG ?_ | refine wH ?_ | refine wI ?_ | refine wJ ?_ | refine wK ?_ | refine wL ?_); simp (disch := omega) only [wP, wZ, undef, UInt8.reduceToNat, Nat.reduceOr, Nat.reduceAnd, Nat.reduceXor, Nat.reduceDiv, if_pos, if_neg, aStore, frz, AV.flat, ↓reduceIte, ne_eq, reduceCtorEq, Int.reduceToNat, Nat.reduceEqDiff, Nat.reduceAdd, Nat.reduceSub, Nat.reduceMul, Int.reduceAdd, Int.reduceMul, Int.reduceSub, Int.reduceLT, Int.reduceLE, Int.reduceEq, Int.reduceNe, Nat.reduceLeDiff, Nat.reduceLT, Int.reduceNeg, Nat.reducePow, Nat.reduceMod, ByteArray.size, iR, ← hx, d0, dn, hsp']))
          refine At.of (k + 1) (by omega) (by omega) rfl rfl (Nat.le_refl _) ?_ ?_
          · simp (disch := omega) only [wP, wZ, undef, UInt8.reduceToNat, Nat.reduceOr, Nat.reduceAnd, Nat.reduceXor, Nat.reduceDiv, if_pos, if_neg, aStore, frz, AV.flat, ↓reduceIte, ne_eq, reduceCtorEq, Int.reduceToNat, Nat.reduceEqDiff, Nat.reduceAdd, Nat.reduceSub, Nat.reduceMul, Int.reduceAdd, Int.reduceMul, Int.reduceSub, Int.reduceLT, Int.reduceLE, Int.reduceEq, Int.reduceNe, Nat.reduceLeDiff, Nat.reduceLT, Int.reduceNeg, Nat.reducePow, Nat.reduceMod, ByteArray.size, hy1]
          · simp (disch := omega) only [wP, wZ, undef, UInt8.reduceToNat, Nat.reduceOr, Nat.reduceAnd, Nat.reduceXor, Nat.reduceDiv, if_pos, if_neg, aStore, frz, AV.flat, ↓reduceIte, ne_eq, reduceCtorEq, Int.reduceToNat, Nat.reduceEqDiff, Nat.reduceAdd, Nat.reduceSub, Nat.reduceMul, Int.reduceAdd, Int.reduceMul, Int.reduceSub, Int.reduceLT, Int.reduceLE, Int.reduceEq, Int.reduceNe, Nat.reduceLeDiff, Nat.reduceLT, Int.reduceNeg, Nat.reducePow, Nat.reduceMod, ByteArray.size]
            exact hsp2
        · have dn : decide ((0 : Int) < (n : Int)) = true := decide_eq_true (by omega)
          have hy1 : nxK l (k + 1) n = nxK l k n + 1 := by unfold nxK; rw [if_neg cn, if_neg cn, hcs, if_pos c0.symm]; omega
          obtain ⟨y, hy⟩ : ∃ y, y = nxK l k n := ⟨_, rfl⟩
          rw [← hy] at hst hyl hy1 ⊢
          have hsp := splice_nA (l := C) (k := k) (x := y) (by omega)
          rw [hst] at hsp
          repeat (first | refine wA ?_ | refine wB ?_ | refine wC rfl ?_ | refine wD rfl ?_ | refine wE ?_ | refine wF (by omega) ?_ | ((first | refine wG ?_ | refine wH ?_ | refine wI ?_ | refine wJ ?_ | refine wK ?_ | refine wL ?_); simp (disch := omega) only [wP, wZ, undef, UInt8.reduceToNat, Nat.reduceOr, Nat.reduceAnd, Nat.reduceXor, Nat.reduceDiv, if_pos, if_neg, aStore, frz, AV.flat, ↓reduceIte, ne_eq, reduceCtorEq, Int.reduceToNat, Nat.reduceEqDiff, Nat.reduceAdd, Nat.reduceSub, Nat.reduceMul, Int.reduceAdd, Int.reduceMul, Int.reduceSub, Int.reduceLT, Int.reduceLE, Int.reduceEq, Int.reduceNe, Nat.reduceLeDiff, Nat.reduceLT, Int.reduceNeg, Nat.reducePow, Nat.reduceMod, ByteArray.size, iR, ← hx, d0, dn]))
          refine At.of (k + 1) (by omega) (by omega) rfl rfl (Nat.le_refl _) ?_ ?_
          · simp (disch := omega) only [wP, wZ, undef, UInt8.reduceToNat, Nat.reduceOr, Nat.reduceAnd, Nat.reduceXor, Nat.reduceDiv, if_pos, if_neg, aStore, frz, AV.flat, ↓reduceIte, ne_eq, reduceCtorEq, Int.reduceToNat, Nat.reduceEqDiff, Nat.reduceAdd, Nat.reduceSub, Nat.reduceMul, Int.reduceAdd, Int.reduceMul, Int.reduceSub, Int.reduceLT, Int.reduceLE, Int.reduceEq, Int.reduceNe, Nat.reduceLeDiff, Nat.reduceLT, Int.reduceNeg, Nat.reducePow, Nat.reduceMod, ByteArray.size, hy1]
          · simp (disch := omega) only [wP, wZ, undef, UInt8.reduceToNat, Nat.reduceOr, Nat.reduceAnd, Nat.reduceXor, Nat.reduceDiv, if_pos, if_neg, aStore, frz, AV.flat, ↓reduceIte, ne_eq, reduceCtorEq, Int.reduceToNat, Nat.reduceEqDiff, Nat.reduceAdd, Nat.reduceSub, Nat.reduceMul, Int.reduceAdd, Int.reduceMul, Int.reduceSub, Int.reduceLT, Int.reduceLE, Int.reduceEq, Int.reduceNe, Nat.reduceLeDiff, Nat.reduceLT, Int.reduceNeg, Nat.reducePow, Nat.reduceMod, ByteArray.size]
            exact hsp
      · have d0 : decide ((x : Int) = (n : Int)) = false := decide_eq_false (by omega)
        have hsm := hsm c0
        have hy1 : nxK l (k + 1) n = nxK l k n := by
          unfold nxK
          split
          · rfl
          · rw [hcs, if_neg (fun h => c0 h.symm)]; rfl
        repeat (first | refine wA ?_ | refine wB ?_ | refine wC rfl ?_ | refine wD rfl ?_ | refine wE ?_ | refine wF (by omega) ?_ | ((first | refine wG ?_ | refine wH ?_ | refine wI ?_ | refine wJ ?_ | refine wK ?_ | refine wL ?_); simp (disch := omega) only [wP, wZ, undef, UInt8.reduceToNat, Nat.reduceOr, Nat.reduceAnd, Nat.reduceXor, Nat.reduceDiv, if_pos, if_neg, aStore, frz, AV.flat, ↓reduceIte, ne_eq, reduceCtorEq, Int.reduceToNat, Nat.reduceEqDiff, Nat.reduceAdd, Nat.reduceSub, Nat.reduceMul, Int.reduceAdd, Int.reduceMul, Int.reduceSub, Int.reduceLT, Int.reduceLE, Int.reduceEq, Int.reduceNe, Nat.reduceLeDiff, Nat.reduceLT, Int.reduceNeg, Nat.reducePow, Nat.reduceMod, ByteArray.size, iR, ← hx, d0]))
        refine At.of (k + 1) (by omega) (by omega) rfl rfl (Nat.le_refl _) ?_ ?_
        iterate 2 (case _ => simp (disch := omega) only [wP, wZ, undef, UInt8.reduceToNat, Nat.reduceOr, Nat.reduceAnd, Nat.reduceXor, Nat.reduceDiv, if_pos, if_neg, aStore, frz, AV.flat, ↓reduceIte, ne_eq, reduceCtorEq, Int.reduceToNat, Nat.reduceEqDiff, Nat.reduceAdd, Nat.reduceSub, Nat.reduceMul, Int.reduceAdd, Int.reduceMul, Int.reduceSub, Int.reduceLT, Int.reduceLE, Int.reduceEq, Int.reduceNe, Nat.reduceLeDiff, Nat.reduceLT, Int.reduceNeg, Nat.reducePow, Nat.reduceMod, ByteArray.size, hy1, hsm])
    · simp only [decide_eq_false_iff_not] at h
      obtain rfl : k = l.length := by omega
      have hfn : nxK l l.length n * 2 = fr l (n + 1) := by
        unfold nxK
        by_cases e : n = 0
        · subst e; rfl
        · rw [if_neg e, List.take_length, fr, cn, if_neg e, Nat.mul_comm]
      have hst := st_next (l := l) (n := n)
      rw [hst]
      obtain ⟨y, hy⟩ : ∃ y, y = nxK l l.length n := ⟨_, rfl⟩
      rw [← hy] at hfn hyl ⊢
      repeat (first | refine wA ?_ | refine wB ?_ | refine wC rfl ?_ | refine wD rfl ?_ | refine wE ?_ | refine wF (by omega) ?_ | ((first | refine wG ?_ | refine wH ?_ | refine wI ?_ | refine wJ ?_ | refine wK ?_ | refine wL ?_); simp (disch := omega) only [wP, wZ, undef, UInt8.reduceToNat, Nat.reduceOr, Nat.reduceAnd, Nat.reduceXor, Nat.reduceDiv, if_pos, if_neg, aStore, frz, AV.flat, ↓reduceIte, ne_eq, reduceCtorEq, Int.reduceToNat, Nat.reduceEqDiff, Nat.reduceAdd, Nat.reduceSub, Nat.reduceMul, Int.reduceAdd, Int.reduceMul, Int.reduceSub, Int.reduceLT, Int.reduceLE, Int.reduceEq, Int.reduceNe, Nat.reduceLeDiff, Nat.reduceLT, Int.reduceNeg, Nat.reducePow, Nat.reduceMod, ByteArray.size]))
      refine At.of (n + 1) (by omega) (by omega) rfl rfl (Nat.le_refl _) ?_ ?_
      · simp (disch := omega) only [wP, wZ, undef, UInt8.reduceToNat, Nat.reduceOr, Nat.reduceAnd, Nat.reduceXor, Nat.reduceDiv, if_pos, if_neg, aStore, frz, AV.flat, ↓reduceIte, ne_eq, reduceCtorEq, Int.reduceToNat, Nat.reduceEqDiff, Nat.reduceAdd, Nat.reduceSub, Nat.reduceMul, Int.reduceAdd, Int.reduceMul, Int.reduceSub, Int.reduceLT, Int.reduceLE, Int.reduceEq, Int.reduceNe, Nat.reduceLeDiff, Nat.reduceLT, Int.reduceNeg, Nat.reducePow, Nat.reduceMod, ByteArray.size, ← hfn]
        omega
      · simp (disch := omega) only [wP, wZ, undef, UInt8.reduceToNat, Nat.reduceOr, Nat.reduceAnd, Nat.reduceXor, Nat.reduceDiv, if_pos, if_neg, aStore, frz, AV.flat, ↓reduceIte, ne_eq, reduceCtorEq, Int.reduceToNat, Nat.reduceEqDiff, Nat.reduceAdd, Nat.reduceSub, Nat.reduceMul, Int.reduceAdd, Int.reduceMul, Int.reduceSub, Int.reduceLT, Int.reduceLE, Int.reduceEq, Int.reduceNe, Nat.reduceLeDiff, Nat.reduceLT, Int.reduceNeg, Nat.reducePow, Nat.reduceMod, ByteArray.size]
  · simp only [decide_eq_false_iff_not] at h
    obtain rfl : n = 16 := by omega
    rw [st_all h15]
    have hlc := length_codesL (l := l)
    repeat (first | refine wA ?_ | refine wB ?_ | refine wC rfl ?_ | refine wD rfl ?_ | refine wE ?_ | refine wF (by omega) ?_ | ((first | refine wG ?_ | refine wH ?_ | refine wI ?_ | refine wJ ?_ | refine wK ?_ | refine wL ?_); simp (disch := omega) only [wP, wZ, undef, UInt8.reduceToNat, Nat.reduceOr, Nat.reduceAnd, Nat.reduceXor, Nat.reduceDiv, if_pos, if_neg, aStore, frz, AV.flat, ↓reduceIte, ne_eq, reduceCtorEq, Int.reduceToNat, Nat.reduceEqDiff, Nat.reduceAdd, Nat.reduceSub, Nat.reduceMul, Int.reduceAdd, Int.reduceMul, Int.reduceSub, Int.reduceLT, Int.reduceLE, Int.reduceEq, Int.reduceNe, Nat.reduceLeDiff, Nat.reduceLT, Int.reduceNeg, Nat.reducePow, Nat.reduceMod, ByteArray.size, iR]))
end Go.Proofs.YtokdmakljdhjiaaDoor.Aw
