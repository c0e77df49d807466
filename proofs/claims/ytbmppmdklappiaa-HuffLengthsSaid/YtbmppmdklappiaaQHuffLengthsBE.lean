/- Parts of the proof of HuffLengths. -/
import Derived.Test.YtbmppmdklappiaaQHuffLengthsBD
import Derived.Test.YtbmppmdklappiaaQHuffLengthsBA
namespace Go.Proofs.Ytbmppmdklappiaa.Aw
open Go
set_option linter.unusedSimpArgs false
set_option linter.unusedVariables false
def KM (n : Nat) : Nat := 10 * n * n
theorem KM_pos {n : Nat} (h : 1 ≤ n) : 1 ≤ KM n := by
  have := Nat.mul_le_mul h h
  unfold KM; rw [Nat.mul_assoc]; omega
theorem KM_add {p q : Nat} (hp : 1 ≤ p) (hq : 1 ≤ q) : 3 + (p + q) + KM p + KM q ≤ KM (p + q) := by
  unfold KM
  have e : 10 * (p + q) * (p + q) = 10 * p * p + 10 * q * q + 20 * (p * q) := by
    simp only [Nat.mul_add, Nat.add_mul, Nat.mul_assoc, Nat.mul_comm q p]
    omega
  have h1 : p + q ≤ p * q + 1 := by
    obtain ⟨p', rfl⟩ : ∃ p', p = p' + 1 := ⟨p - 1, by omega⟩
    obtain ⟨q', rfl⟩ : ∃ q', q = q' + 1 := ⟨q - 1, by omega⟩
    simp only [Nat.add_mul, Nat.mul_add, Nat.mul_one, Nat.one_mul]
    omega
  have h2 := Nat.mul_le_mul hp hq
  omega
set_option maxHeartbeats 4000000 in
theorem slices_symMerge_h [Tabs Try.prog] : ∀ (n : Nat) (Pf X Y Tl : List Bt) (N a m b : Nat), X.length + Y.length = n → N = (Pf ++ (X ++ (Y ++ Tl))).length → N ≤ 100000 → a = Pf.length → m = Pf.length + X.length → b = m + Y.length → 1 ≤ X.length → 1 ≤ Y.length → Srt X → Srt Y →
    HCon Try.prog n_slices_symMergeCmpFunchuff_batch [.own 1000 0 (some 2) 0 N, int a, int m, int b, cmpF] [.row false (bC (Pf ++ (X ++ (Y ++ Tl))))] (.tup []) [(1000, 0, .row false (bC (Pf ++ (sortB (X ++ Y) ++ Tl))))] (KM n) := by
  intro n
  induction n using Nat.strongRecOn with
  | _ n ih =>
  intro Pf X Y Tl N a m b hn hN hl ha hm hb hX1 hY1 hX hY
  by_cases c1 : X.length = 1
  · obtain ⟨x, rfl⟩ := List.length_eq_one_iff.1 c1
    exact slices_symMerge_left Pf Y Tl x N a m b hN hl ha hm hb hY (KM n) (KM_pos (by omega))
  by_cases c2 : Y.length = 1
  · obtain ⟨y, rfl⟩ := List.length_eq_one_iff.1 c2
    exact slices_symMerge_right Pf X Tl y N a m b hN hl ha hm hb (by omega) hX (KM n) (KM_pos (by omega))
  refine HCon.of' mix Try.func52 rfl Try.ntmps52 e_slices_symMergeCmpFunchuff_batch r_slices_symMergeCmpFunchuff_batch (by simp) (by simp only [AV.gl.glL, AV.gl, int, cmpF, and_true]; omega) bC_gl ?_
  unfold s_slices_symMergeCmpFunchuff_batch
  have hlen : N = Pf.length + (X.length + (Y.length + Tl.length)) := by rw [hN]; simp
  have d0 : decide ((m : Int) - (a : Int) = 1) = false := decide_eq_false (by omega)
  have d00 : decide ((b : Int) - (m : Int) = 1) = false := decide_eq_false (by omega)
  obtain ⟨mid, hmid⟩ : ∃ mid, mid = (a + b) / 2 := ⟨_, rfl⟩
  obtain ⟨nn, hnn⟩ : ∃ nn, nn = mid + m := ⟨_, rfl⟩
  obtain ⟨pp, hpp⟩ : ∃ pp, pp = nn - 1 := ⟨_, rfl⟩
  have emid : IntKind.i64.wrap ((IntKind.u64.wrap ((a : Int) + (b : Int))).fdiv (2 ^ 1)) = (mid : Int) := by
    rw [wrap_u64_id3 (by omega) (by omega), show ((2 : Int) ^ 1) = 2 from rfl, Int.fdiv_eq_ediv_of_nonneg _ (by omega), wrap_i64_id (by omega) (by omega)]
    omega
  have enn : (mid : Int) + (m : Int) = (nn : Int) := by omega
  have epp : (nn : Int) - 1 = (pp : Int) := by omega
  obtain ⟨W, hW⟩ : ∃ W, W = Pf ++ (X ++ (Y ++ Tl)) := ⟨_, rfl⟩
  rw [← hW] at hN
  rw [← hW]
  by_cases hmm : mid < m
  · have dm : decide ((m : Int) > (mid : Int)) = true := decide_eq_true (by omega)
    obtain ⟨s0, hs0⟩ : ∃ s0, s0 = nn - b := ⟨_, rfl⟩
    obtain ⟨r0, hr0⟩ : ∃ r0, r0 = mid := ⟨_, rfl⟩
    have es0 : (nn : Int) - (b : Int) = (s0 : Int) := by omega
    have b1 : a ≤ s0 := by omega
    have b2 : s0 ≤ r0 := by omega
    have b3 : r0 ≤ m := by omega
    have b4 : nn - s0 ≤ b := by omega
    have b5 : m ≤ nn - r0 := by omega
    have i1 : ∀ x ∈ X.take (s0 - a), ∀ y ∈ Y.drop (nn - s0 - m), x.1 ≤ y.1 := fun x _ y hy => by
      rw [List.drop_of_length_le (by omega)] at hy; simp at hy
    have i2 : ∀ y ∈ Y.take (nn - r0 - m), ∀ x ∈ X.drop (r0 - a), y.1 < x.1 := fun y hy => by
      rw [show nn - r0 - m = 0 from by omega] at hy; simp at hy
    repeat (first | refine wA ?_ | refine wB ?_ | refine wC rfl ?_ | refine wD rfl ?_ | refine wE ?_ | refine wF (by omega) ?_ | ((first | refine wG ?_ | refine wH ?_ | refine wI ?_ | refine wJ ?_ | refine wK ?_ | refine wL ?_); simp (disch := omega) only [wP, wZ, undef, UInt8.reduceToNat, Nat.reduceOr, Nat.reduceAnd, Nat.reduceXor, Nat.reduceDiv, if_pos, if_neg, aStore, frz, AV.flat, ↓reduceIte, ne_eq, reduceCtorEq, Int.reduceToNat, Nat.reduceEqDiff, Nat.reduceAdd, Nat.reduceSub, Nat.reduceMul, Int.reduceAdd, Int.reduceMul, Int.reduceSub, Int.reduceLT, Int.reduceLE, Int.reduceEq, Int.reduceNe, Nat.reduceLeDiff, Nat.reduceLT, Int.reduceNeg, Nat.reducePow, Nat.reduceMod, ByteArray.size, d0, d00, emid, enn, dm, es0, epp]))
    refine SWp.loop (α := Nat × Nat) (fun p => mk 220 1 [(0, .own 1000 0 (some 2) 0 N), (1, int a), (2, int m), (3, int b), (4, cmpF), (18, int mid), (19, int nn), (20, int p.1), (21, int p.2), (22, int pp)] [(1000, 0, .row false (bC W))])
      (fun p => a ≤ p.1 ∧ p.1 ≤ p.2 ∧ p.2 ≤ m ∧ nn - p.1 ≤ b ∧ m ≤ nn - p.2 ∧ (∀ x ∈ X.take (p.1 - a), ∀ y ∈ Y.drop (nn - p.1 - m), x.1 ≤ y.1) ∧ (∀ y ∈ Y.take (nn - p.2 - m), ∀ x ∈ X.drop (p.2 - a), y.1 < x.1)) (fun p => p.2 - p.1) (s0, r0) ⟨b1, b2, b3, b4, b5, i1, i2⟩ (le_mk rfl ?_ ?_ ?_) ?_
    · exact Nat.le_refl _
    iterate 2 (case _ => simp (disch := omega) only [wP, wZ, undef, UInt8.reduceToNat, Nat.reduceOr, Nat.reduceAnd, Nat.reduceXor, Nat.reduceDiv, if_pos, if_neg, aStore, frz, AV.flat, ↓reduceIte, ne_eq, reduceCtorEq, Int.reduceToNat, Nat.reduceEqDiff, Nat.reduceAdd, Nat.reduceSub, Nat.reduceMul, Int.reduceAdd, Int.reduceMul, Int.reduceSub, Int.reduceLT, Int.reduceLE, Int.reduceEq, Int.reduceNe, Nat.reduceLeDiff, Nat.reduceLT, Int.reduceNeg, Nat.reducePow, Nat.reduceMod, ByteArray.size, hs0, hr0])
    clear i1 i2 b1 b2 b3 b4 b5
    rintro ⟨s, r⟩ ⟨b1, b2, b3, b4, b5, i1, i2⟩ -
    simp only at b1 b2 b3 b4 b5 i1 i2
    repeat (first | refine wA ?_ | refine wB ?_ | refine wC rfl ?_ | refine wD rfl ?_ | refine wE ?_ | refine wF (by omega) ?_ | ((first | refine wG ?_ | refine wH ?_ | refine wI ?_ | refine wJ ?_ | refine wK ?_ | refine wL ?_); simp (disch := omega) only [wP, wZ, undef, UInt8.reduceToNat, Nat.reduceOr, Nat.reduceAnd, Nat.reduceXor, Nat.reduceDiv, if_pos, if_neg, aStore, frz, AV.flat, ↓reduceIte, ne_eq, reduceCtorEq, Int.reduceToNat, Nat.reduceEqDiff, Nat.reduceAdd, Nat.reduceSub, Nat.reduceMul, Int.reduceAdd, Int.reduceMul, Int.reduceSub, Int.reduceLT, Int.reduceLE, Int.reduceEq, Int.reduceNe, Nat.reduceLeDiff, Nat.reduceLT, Int.reduceNeg, Nat.reducePow, Nat.reduceMod, ByteArray.size]))
    refine SWp.cond rfl (fun h => ?_) (fun h => ?_)
    · simp only [decide_eq_true_eq] at h
      obtain ⟨q, hq⟩ : ∃ q, q = (s + r) / 2 := ⟨_, rfl⟩
      obtain ⟨e, he⟩ : ∃ e, e = pp - q := ⟨_, rfl⟩
      have eq1 : IntKind.i64.wrap ((IntKind.u64.wrap ((s : Int) + (r : Int))).fdiv (2 ^ 1)) = (q : Int) := by
        rw [wrap_u64_id3 (by omega) (by omega), show ((2 : Int) ^ 1) = 2 from rfl, Int.fdiv_eq_ediv_of_nonneg _ (by omega), wrap_i64_id (by omega) (by omega)]
        omega
      have eq2 : (pp : Int) - (q : Int) = (e : Int) := by omega
      obtain ⟨u, hu⟩ : ∃ u, u = q - a := ⟨_, rfl⟩
      obtain ⟨v, hv⟩ : ∃ v, v = e - m := ⟨_, rfl⟩
      have huX : u < X.length := by omega
      have hvY : v < Y.length := by omega
      have hql : q < W.length := by omega
      have hel : e < W.length := by omega
      have e1 := load_bC hql
      have e2 := load_bC hel
      have g1 : W.getD q (0, []) = X.getD u (0, []) := by
        rw [hW]
        simp only [List.getD]
        rw [List.getElem?_append_right (by omega), show q - Pf.length = u from by omega, List.getElem?_append_left huX]
      have g2 : W.getD e (0, []) = Y.getD v (0, []) := by
        rw [hW]
        simp only [List.getD]
        rw [List.getElem?_append_right (by omega), List.getElem?_append_right (by omega), show e - Pf.length - X.length = v from by omega, List.getElem?_append_left hvY]
      obtain ⟨x, hx⟩ : ∃ x, x = X.getD u (0, []) := ⟨_, rfl⟩
      obtain ⟨y, hy⟩ : ∃ y, y = Y.getD v (0, []) := ⟨_, rfl⟩
      rw [g1, ← hx] at e1
      rw [g2, ← hy] at e2
      have e3 : (bC W).length = N * 2 := by rw [length_bC, hN]
      have heN : e * 2 + 2 ≤ N * 2 := by omega
      have hqN : q * 2 + 2 ≤ N * 2 := by omega
      have x1 := srt_take hX huX
      have x2 := srt_drop hX huX
      have y1 := srt_take hY hvY
      have y2 := srt_drop hY hvY
      rw [← hx] at x1 x2
      rw [← hy] at y1 y2
      repeat (first | refine wA ?_ | refine wB ?_ | refine wC rfl ?_ | refine wD rfl ?_ | refine wE ?_ | refine wF (by omega) ?_ | ((first | refine wG ?_ | refine wH ?_ | refine wI ?_ | refine wJ ?_ | refine wK ?_ | refine wL ?_); simp (disch := omega) only [wP, wZ, undef, UInt8.reduceToNat, Nat.reduceOr, Nat.reduceAnd, Nat.reduceXor, Nat.reduceDiv, if_pos, if_neg, aStore, frz, AV.flat, ↓reduceIte, ne_eq, reduceCtorEq, Int.reduceToNat, Nat.reduceEqDiff, Nat.reduceAdd, Nat.reduceSub, Nat.reduceMul, Int.reduceAdd, Int.reduceMul, Int.reduceSub, Int.reduceLT, Int.reduceLE, Int.reduceEq, Int.reduceNe, Nat.reduceLeDiff, Nat.reduceLT, Int.reduceNeg, Nat.reducePow, Nat.reduceMod, ByteArray.size, eq1, eq2, e1, e2, e3]))
      refine goV_at n_huff_byCount rfl (by decide) ?_
      refine goC_p _ (.inl ⟨by simp only [AV.free, AV.free.freeL, nA, free_nA, Bool.and_self], huff_byCount_c (y.1 : Int) (x.1 : Int) _ _ (by simp only [AV.free, free_nA]) (by simp only [AV.free, free_nA])⟩) ?_
      by_cases c : y.1 < x.1
      · have dc : decide (cmpI (y.1 : Int) (x.1 : Int) < 0) = true := by
          unfold cmpI; rw [if_pos (by omega)]; rfl
        repeat (first | refine wA ?_ | refine wB ?_ | refine wC rfl ?_ | refine wD rfl ?_ | refine wE ?_ | refine wF (by omega) ?_ | ((first | refine wG ?_ | refine wH ?_ | refine wI ?_ | refine wJ ?_ | refine wK ?_ | refine wL ?_); simp (disch := omega) only [wP, wZ, undef, UInt8.reduceToNat, Nat.reduceOr, Nat.reduceAnd, Nat.reduceXor, Nat.reduceDiv, if_pos, if_neg, aStore, frz, AV.flat, ↓reduceIte, ne_eq, reduceCtorEq, Int.reduceToNat, Nat.reduceEqDiff, Nat.reduceAdd, Nat.reduceSub, Nat.reduceMul, Int.reduceAdd, Int.reduceMul, Int.reduceSub, Int.reduceLT, Int.reduceLE, Int.reduceEq, Int.reduceNe, Nat.reduceLeDiff, Nat.reduceLT, Int.reduceNeg, Nat.reducePow, Nat.reduceMod, ByteArray.size, dc]))
        refine At.of (s, q) ⟨b1, by simp only; omega, by simp only; omega, b4, by simp only; omega, i1, fun y' hy' x' hx' => ?_⟩ (by simp only; omega) rfl rfl (Nat.le_refl _) ?_ ?_
        · simp only at hy' hx'
          rw [show nn - q - m = v + 1 from by omega] at hy'
          rw [show q - a = u from by omega] at hx'
          have h1 := y1 y' hy'
          have h2 := x2 x' hx'
          omega
        · simp (disch := omega) only [wP, wZ, undef, UInt8.reduceToNat, Nat.reduceOr, Nat.reduceAnd, Nat.reduceXor, Nat.reduceDiv, if_pos, if_neg, aStore, frz, AV.flat, ↓reduceIte, ne_eq, reduceCtorEq, Int.reduceToNat, Nat.reduceEqDiff, Nat.reduceAdd, Nat.reduceSub, Nat.reduceMul, Int.reduceAdd, Int.reduceMul, Int.reduceSub, Int.reduceLT, Int.reduceLE, Int.reduceEq, Int.reduceNe, Nat.reduceLeDiff, Nat.reduceLT, Int.reduceNeg, Nat.reducePow, Nat.reduceMod, ByteArray.size]
          try omega
        · simp (disch := omega) only [wP, wZ, undef, UInt8.reduceToNat, Nat.reduceOr, Nat.reduceAnd, Nat.reduceXor, Nat.reduceDiv, if_pos, if_neg, aStore, frz, AV.flat, ↓reduceIte, ne_eq, reduceCtorEq, Int.reduceToNat, Nat.reduceEqDiff, Nat.reduceAdd, Nat.reduceSub, Nat.reduceMul, Int.reduceAdd, Int.reduceMul, Int.reduceSub, Int.reduceLT, Int.reduceLE, Int.reduceEq, Int.reduceNe, Nat.reduceLeDiff, Nat.reduceLT, Int.reduceNeg, Nat.reducePow, Nat.reduceMod, ByteArray.size]
      · have dc : decide (cmpI (y.1 : Int) (x.1 : Int) < 0) = false := by
          unfold cmpI; rw [if_neg (by omega)]; split <;> rfl
        repeat (first | refine wA ?_ | refine wB ?_ | refine wC rfl ?_ | refine wD rfl ?_ | refine wE ?_ | refine wF (by omega) ?_ | ((first | refine wG ?_ | refine wH ?_ | refine wI ?_ | refine wJ ?_ | refine wK ?_ | refine wL ?_); simp (disch := omega) only [wP, wZ, undef, UInt8.reduceToNat, Nat.reduceOr, Nat.reduceAnd, Nat.reduceXor, Nat.reduceDiv, if_pos, if_neg, aStore, frz, AV.flat, ↓reduceIte, ne_eq, reduceCtorEq, Int.reduceToNat, Nat.reduceEqDiff, Nat.reduceAdd, Nat.reduceSub, Nat.reduceMul, Int.reduceAdd, Int.reduceMul, Int.reduceSub, Int.reduceLT, Int.reduceLE, Int.reduceEq, Int.reduceNe, Nat.reduceLeDiff, Nat.reduceLT, Int.reduceNeg, Nat.reducePow, Nat.reduceMod, ByteArray.size, dc]))
        refine At.of (q + 1, r) ⟨by simp only; omega, by simp only; omega, b3, by simp only; omega, b5, fun x' hx' y' hy' => ?_, i2⟩ (by simp only; omega) rfl rfl (Nat.le_refl _) ?_ ?_
        · simp only at hy' hx'
          rw [show nn - (q + 1) - m = v from by omega] at hy'
          rw [show q + 1 - a = u + 1 from by omega] at hx'
          have h1 := x1 x' hx'
          have h2 := y2 y' hy'
          omega
        · simp (disch := omega) only [wP, wZ, undef, UInt8.reduceToNat, Nat.reduceOr, Nat.reduceAnd, Nat.reduceXor, Nat.reduceDiv, if_pos, if_neg, aStore, frz, AV.flat, ↓reduceIte, ne_eq, reduceCtorEq, Int.reduceToNat, Nat.reduceEqDiff, Nat.reduceAdd, Nat.reduceSub, Nat.reduceMul, Int.reduceAdd, Int.reduceMul, Int.reduceSub, Int.reduceLT, Int.reduceLE, Int.reduceEq, Int.reduceNe, Nat.reduceLeDiff, Nat.reduceLT, Int.reduceNeg, Nat.reducePow, Nat.reduceMod, ByteArray.size]
          try omega
        · simp (disch := omega) only [wP, wZ, undef, UInt8.reduceToNat, Nat.reduceOr, Nat.reduceAnd, Nat.reduceXor, Nat.reduceDiv, if_pos, if_neg, aStore, frz, AV.flat, ↓reduceIte, ne_eq, reduceCtorEq, Int.reduceToNat, Nat.reduceEqDiff, Nat.reduceAdd, Nat.reduceSub, Nat.reduceMul, Int.reduceAdd, Int.reduceMul, Int.reduceSub, Int.reduceLT, Int.reduceLE, Int.reduceEq, Int.reduceNe, Nat.reduceLeDiff, Nat.reduceLT, Int.reduceNeg, Nat.reducePow, Nat.reduceMod, ByteArray.size]
    · simp only [decide_eq_false_iff_not] at h
      obtain rfl : s = r := by omega
      obtain ⟨X1, hX1'⟩ : ∃ X1, X1 = X.take (s - a) := ⟨_, rfl⟩
      obtain ⟨X2, hX2'⟩ : ∃ X2, X2 = X.drop (s - a) := ⟨_, rfl⟩
      obtain ⟨Y1, hY1'⟩ : ∃ Y1, Y1 = Y.take (nn - s - m) := ⟨_, rfl⟩
      obtain ⟨Y2, hY2'⟩ : ∃ Y2, Y2 = Y.drop (nn - s - m) := ⟨_, rfl⟩
      rw [← hX1', ← hY2'] at i1
      rw [← hY1', ← hX2'] at i2
      have hXX : X = X1 ++ X2 := by rw [hX1', hX2', List.take_append_drop]
      have hYY : Y = Y1 ++ Y2 := by rw [hY1', hY2', List.take_append_drop]
      obtain ⟨e, he⟩ : ∃ e, e = nn - s := ⟨_, rfl⟩
      have l1 : X1.length = s - a := by rw [hX1', List.length_take]; omega
      have l2 : X2.length = m - s := by rw [hX2', List.length_drop]; omega
      have l3 : Y1.length = e - m := by rw [hY1', List.length_take]; omega
      have l4 : Y2.length = b - e := by rw [hY2', List.length_drop]; omega
      have eens : (nn : Int) - (s : Int) = (e : Int) := by omega
      have hWl : W = Pf ++ (X1 ++ (X2 ++ (Y1 ++ (Y2 ++ Tl)))) := by rw [hW, hXX, hYY]; simp
      have sX := hX
      have sY := hY
      rw [hXX] at sX
      rw [hYY] at sY
      have hcut := sortB_cut sX sY i1 i2
      rw [← hXX, ← hYY] at hcut
      obtain ⟨sX1, sX2, _⟩ := List.pairwise_append.1 sX
      obtain ⟨sY1, sY2, _⟩ := List.pairwise_append.1 sY
      iterate 4 (first | refine wA ?_ | refine wB ?_ | refine wC rfl ?_ | refine wD rfl ?_ | refine wE ?_ | refine wF (by omega) ?_ | ((first | refine wG ?_ | refine wH ?_ | refine wI ?_ | refine wJ ?_ | refine wK ?_ | refine wL ?_); simp (disch := omega) only [wP, wZ, undef, UInt8.reduceToNat, Nat.reduceOr, Nat.reduceAnd, Nat.reduceXor, Nat.reduceDiv, if_pos, if_neg, aStore, frz, AV.flat, ↓reduceIte, ne_eq, reduceCtorEq, Int.reduceToNat, Nat.reduceEqDiff, Nat.reduceAdd, Nat.reduceSub, Nat.reduceMul, Int.reduceAdd, Int.reduceMul, Int.reduceSub, Int.reduceLT, Int.reduceLE, Int.reduceEq, Int.reduceNe, Nat.reduceLeDiff, Nat.reduceLT, Int.reduceNeg, Nat.reducePow, Nat.reduceMod, ByteArray.size, eens]))
      have lp : X1.length + Y1.length = mid - a := by omega
      have lq : X2.length + Y2.length = b - mid := by omega
      have hKK := KM_add (p := X1.length + Y1.length) (q := X2.length + Y2.length) (by omega) (by omega)
      rw [show X1.length + Y1.length + (X2.length + Y2.length) = n from by omega] at hKK
      obtain ⟨g1, hg1⟩ : ∃ g1, g1 = 1 + (2 + (X2.length + Y1.length)) := ⟨_, rfl⟩
      refine SWp.toT (F := mk 220 g1 [(0, .own 1000 0 (some 2) 0 N), (1, int a), (2, int m), (3, int b), (4, cmpF), (18, int mid), (20, int s), (24, int e)] [(1000, 0, .row false (bC (Pf ++ (X1 ++ (Y1 ++ (X2 ++ (Y2 ++ Tl)))))))]) ?_ ?_
      · by_cases ca : s < m
        · have dA1 : decide ((s : Int) < (m : Int)) = true := decide_eq_true (by omega)
          by_cases cb : m < e
          · have dA2 : decide ((m : Int) < (e : Int)) = true := decide_eq_true (by omega)
            have hrot := slices_rotate_h (Pf ++ X1) X2 Y1 (Y2 ++ Tl) N s m e (by rw [hN, hWl]; simp) hl (by simp; omega) (by simp; omega) (by simp; omega) (by omega) (by omega)
            simp only [List.append_assoc] at hrot
            rw [← hWl] at hrot
            repeat (first | refine wA ?_ | refine wB ?_ | refine wC rfl ?_ | refine wD rfl ?_ | refine wE ?_ | refine wF (by omega) ?_ | ((first | refine wG ?_ | refine wH ?_ | refine wI ?_ | refine wJ ?_ | refine wK ?_ | refine wL ?_); simp (disch := omega) only [wP, wZ, undef, UInt8.reduceToNat, Nat.reduceOr, Nat.reduceAnd, Nat.reduceXor, Nat.reduceDiv, if_pos, if_neg, aStore, frz, AV.flat, ↓reduceIte, ne_eq, reduceCtorEq, Int.reduceToNat, Nat.reduceEqDiff, Nat.reduceAdd, Nat.reduceSub, Nat.reduceMul, Int.reduceAdd, Int.reduceMul, Int.reduceSub, Int.reduceLT, Int.reduceLE, Int.reduceEq, Int.reduceNe, Nat.reduceLeDiff, Nat.reduceLT, Int.reduceNeg, Nat.reducePow, Nat.reduceMod, ByteArray.size, dA1, dA2]))
            refine goC_h [(1000, 0)] 2000 hrot (by simp) (by simp) ?_ ?_ ?_
            iterate 2 (case _ => simp (disch := omega) only [wP, wZ, undef, UInt8.reduceToNat, Nat.reduceOr, Nat.reduceAnd, Nat.reduceXor, Nat.reduceDiv, if_pos, if_neg, aStore, frz, AV.flat, ↓reduceIte, ne_eq, reduceCtorEq, Int.reduceToNat, Nat.reduceEqDiff, Nat.reduceAdd, Nat.reduceSub, Nat.reduceMul, Int.reduceAdd, Int.reduceMul, Int.reduceSub, Int.reduceLT, Int.reduceLE, Int.reduceEq, Int.reduceNe, Nat.reduceLeDiff, Nat.reduceLT, Int.reduceNeg, Nat.reducePow, Nat.reduceMod, ByteArray.size, renL_bC, cmpF])
            repeat (first | refine wA ?_ | refine wB ?_ | refine wC rfl ?_ | refine wD rfl ?_ | refine wE ?_ | refine wF (by omega) ?_ | ((first | refine wG ?_ | refine wH ?_ | refine wI ?_ | refine wJ ?_ | refine wK ?_ | refine wL ?_); simp (disch := omega) only [wP, wZ, undef, UInt8.reduceToNat, Nat.reduceOr, Nat.reduceAnd, Nat.reduceXor, Nat.reduceDiv, if_pos, if_neg, aStore, frz, AV.flat, ↓reduceIte, ne_eq, reduceCtorEq, Int.reduceToNat, Nat.reduceEqDiff, Nat.reduceAdd, Nat.reduceSub, Nat.reduceMul, Int.reduceAdd, Int.reduceMul, Int.reduceSub, Int.reduceLT, Int.reduceLE, Int.reduceEq, Int.reduceNe, Nat.reduceLeDiff, Nat.reduceLT, Int.reduceNeg, Nat.reducePow, Nat.reduceMod, ByteArray.size, renL_bC]))
            refine le_mk rfl ?_ ?_ ?_
            · show 1 + (2 + (X2.length + Y1.length)) ≤ g1
              omega
            iterate 2 (case _ => simp (disch := omega) only [wP, wZ, undef, UInt8.reduceToNat, Nat.reduceOr, Nat.reduceAnd, Nat.reduceXor, Nat.reduceDiv, if_pos, if_neg, aStore, frz, AV.flat, ↓reduceIte, ne_eq, reduceCtorEq, Int.reduceToNat, Nat.reduceEqDiff, Nat.reduceAdd, Nat.reduceSub, Nat.reduceMul, Int.reduceAdd, Int.reduceMul, Int.reduceSub, Int.reduceLT, Int.reduceLE, Int.reduceEq, Int.reduceNe, Nat.reduceLeDiff, Nat.reduceLT, Int.reduceNeg, Nat.reducePow, Nat.reduceMod, ByteArray.size])
          · have dA2 : decide ((m : Int) < (e : Int)) = false := decide_eq_false (by omega)
            have hY0 : Y1 = [] := List.eq_nil_of_length_eq_zero (by omega)
            repeat (first | refine wA ?_ | refine wB ?_ | refine wC rfl ?_ | refine wD rfl ?_ | refine wE ?_ | refine wF (by omega) ?_ | ((first | refine wG ?_ | refine wH ?_ | refine wI ?_ | refine wJ ?_ | refine wK ?_ | refine wL ?_); simp (disch := omega) only [wP, wZ, undef, UInt8.reduceToNat, Nat.reduceOr, Nat.reduceAnd, Nat.reduceXor, Nat.reduceDiv, if_pos, if_neg, aStore, frz, AV.flat, ↓reduceIte, ne_eq, reduceCtorEq, Int.reduceToNat, Nat.reduceEqDiff, Nat.reduceAdd, Nat.reduceSub, Nat.reduceMul, Int.reduceAdd, Int.reduceMul, Int.reduceSub, Int.reduceLT, Int.reduceLE, Int.reduceEq, Int.reduceNe, Nat.reduceLeDiff, Nat.reduceLT, Int.reduceNeg, Nat.reducePow, Nat.reduceMod, ByteArray.size, dA1, dA2]))
            refine SWp.skip (le_mk rfl ?_ ?_ ?_)
            · show 1 ≤ g1
              omega
            iterate 2 (case _ => simp (disch := omega) only [wP, wZ, undef, UInt8.reduceToNat, Nat.reduceOr, Nat.reduceAnd, Nat.reduceXor, Nat.reduceDiv, if_pos, if_neg, aStore, frz, AV.flat, ↓reduceIte, ne_eq, reduceCtorEq, Int.reduceToNat, Nat.reduceEqDiff, Nat.reduceAdd, Nat.reduceSub, Nat.reduceMul, Int.reduceAdd, Int.reduceMul, Int.reduceSub, Int.reduceLT, Int.reduceLE, Int.reduceEq, Int.reduceNe, Nat.reduceLeDiff, Nat.reduceLT, Int.reduceNeg, Nat.reducePow, Nat.reduceMod, ByteArray.size, hWl, hY0])
        · have dA1 : decide ((s : Int) < (m : Int)) = false := decide_eq_false (by omega)
          have hX0 : X2 = [] := List.eq_nil_of_length_eq_zero (by omega)
          repeat (first | refine wA ?_ | refine wB ?_ | refine wC rfl ?_ | refine wD rfl ?_ | refine wE ?_ | refine wF (by omega) ?_ | ((first | refine wG ?_ | refine wH ?_ | refine wI ?_ | refine wJ ?_ | refine wK ?_ | refine wL ?_); simp (disch := omega) only [wP, wZ, undef, UInt8.reduceToNat, Nat.reduceOr, Nat.reduceAnd, Nat.reduceXor, Nat.reduceDiv, if_pos, if_neg, aStore, frz, AV.flat, ↓reduceIte, ne_eq, reduceCtorEq, Int.reduceToNat, Nat.reduceEqDiff, Nat.reduceAdd, Nat.reduceSub, Nat.reduceMul, Int.reduceAdd, Int.reduceMul, Int.reduceSub, Int.reduceLT, Int.reduceLE, Int.reduceEq, Int.reduceNe, Nat.reduceLeDiff, Nat.reduceLT, Int.reduceNeg, Nat.reducePow, Nat.reduceMod, ByteArray.size, dA1]))
          refine SWp.skip (le_mk rfl ?_ ?_ ?_)
          · show 1 ≤ g1
            omega
          iterate 2 (case _ => simp (disch := omega) only [wP, wZ, undef, UInt8.reduceToNat, Nat.reduceOr, Nat.reduceAnd, Nat.reduceXor, Nat.reduceDiv, if_pos, if_neg, aStore, frz, AV.flat, ↓reduceIte, ne_eq, reduceCtorEq, Int.reduceToNat, Nat.reduceEqDiff, Nat.reduceAdd, Nat.reduceSub, Nat.reduceMul, Int.reduceAdd, Int.reduceMul, Int.reduceSub, Int.reduceLT, Int.reduceLE, Int.reduceEq, Int.reduceNe, Nat.reduceLeDiff, Nat.reduceLT, Int.reduceNeg, Nat.reducePow, Nat.reduceMod, ByteArray.size, hWl, hX0])
      obtain ⟨g2, hg2⟩ : ∃ g2, g2 = g1 + KM (X1.length + Y1.length) := ⟨_, rfl⟩
      refine SWp.to (F := mk 220 g2 [(0, .own 1000 0 (some 2) 0 N), (1, int a), (2, int m), (3, int b), (4, cmpF), (18, int mid), (20, int s), (24, int e)] [(1000, 0, .row false (bC (Pf ++ (sortB (X1 ++ Y1) ++ (X2 ++ (Y2 ++ Tl))))))]) ?_ ?_
      · by_cases ca : a < s
        · have dB1 : decide ((a : Int) < (s : Int)) = true := decide_eq_true (by omega)
          by_cases cb : s < mid
          · have dB2 : decide ((s : Int) < (mid : Int)) = true := decide_eq_true (by omega)
            have hrec := ih (X1.length + Y1.length) (by omega) Pf X1 Y1 (X2 ++ (Y2 ++ Tl)) N a s mid rfl (by rw [hN, hWl]; simp; omega) hl ha (by omega) (by omega) (by omega) (by omega) sX1 sY1
            repeat (first | refine wA ?_ | refine wB ?_ | refine wC rfl ?_ | refine wD rfl ?_ | refine wE ?_ | refine wF (by omega) ?_ | ((first | refine wG ?_ | refine wH ?_ | refine wI ?_ | refine wJ ?_ | refine wK ?_ | refine wL ?_); simp (disch := omega) only [wP, wZ, undef, UInt8.reduceToNat, Nat.reduceOr, Nat.reduceAnd, Nat.reduceXor, Nat.reduceDiv, if_pos, if_neg, aStore, frz, AV.flat, ↓reduceIte, ne_eq, reduceCtorEq, Int.reduceToNat, Nat.reduceEqDiff, Nat.reduceAdd, Nat.reduceSub, Nat.reduceMul, Int.reduceAdd, Int.reduceMul, Int.reduceSub, Int.reduceLT, Int.reduceLE, Int.reduceEq, Int.reduceNe, Nat.reduceLeDiff, Nat.reduceLT, Int.reduceNeg, Nat.reducePow, Nat.reduceMod, ByteArray.size, dB1, dB2]))
            refine goC_h [(1000, 0)] 2000 hrec (by simp) (by simp) ?_ ?_ ?_
            iterate 2 (case _ => simp (disch := omega) only [wP, wZ, undef, UInt8.reduceToNat, Nat.reduceOr, Nat.reduceAnd, Nat.reduceXor, Nat.reduceDiv, if_pos, if_neg, aStore, frz, AV.flat, ↓reduceIte, ne_eq, reduceCtorEq, Int.reduceToNat, Nat.reduceEqDiff, Nat.reduceAdd, Nat.reduceSub, Nat.reduceMul, Int.reduceAdd, Int.reduceMul, Int.reduceSub, Int.reduceLT, Int.reduceLE, Int.reduceEq, Int.reduceNe, Nat.reduceLeDiff, Nat.reduceLT, Int.reduceNeg, Nat.reducePow, Nat.reduceMod, ByteArray.size, renL_bC, cmpF])
            repeat (first | refine wA ?_ | refine wB ?_ | refine wC rfl ?_ | refine wD rfl ?_ | refine wE ?_ | refine wF (by omega) ?_ | ((first | refine wG ?_ | refine wH ?_ | refine wI ?_ | refine wJ ?_ | refine wK ?_ | refine wL ?_); simp (disch := omega) only [wP, wZ, undef, UInt8.reduceToNat, Nat.reduceOr, Nat.reduceAnd, Nat.reduceXor, Nat.reduceDiv, if_pos, if_neg, aStore, frz, AV.flat, ↓reduceIte, ne_eq, reduceCtorEq, Int.reduceToNat, Nat.reduceEqDiff, Nat.reduceAdd, Nat.reduceSub, Nat.reduceMul, Int.reduceAdd, Int.reduceMul, Int.reduceSub, Int.reduceLT, Int.reduceLE, Int.reduceEq, Int.reduceNe, Nat.reduceLeDiff, Nat.reduceLT, Int.reduceNeg, Nat.reducePow, Nat.reduceMod, ByteArray.size, renL_bC]))
            refine le_mk rfl ?_ ?_ ?_
            · show g1 + KM (X1.length + Y1.length) ≤ g2
              omega
            iterate 2 (case _ => simp (disch := omega) only [wP, wZ, undef, UInt8.reduceToNat, Nat.reduceOr, Nat.reduceAnd, Nat.reduceXor, Nat.reduceDiv, if_pos, if_neg, aStore, frz, AV.flat, ↓reduceIte, ne_eq, reduceCtorEq, Int.reduceToNat, Nat.reduceEqDiff, Nat.reduceAdd, Nat.reduceSub, Nat.reduceMul, Int.reduceAdd, Int.reduceMul, Int.reduceSub, Int.reduceLT, Int.reduceLE, Int.reduceEq, Int.reduceNe, Nat.reduceLeDiff, Nat.reduceLT, Int.reduceNeg, Nat.reducePow, Nat.reduceMod, ByteArray.size])
          · have dB2 : decide ((s : Int) < (mid : Int)) = false := decide_eq_false (by omega)
            have hY0 : Y1 = [] := List.eq_nil_of_length_eq_zero (by omega)
            have hsx := sortB_id sX1
            repeat (first | refine wA ?_ | refine wB ?_ | refine wC rfl ?_ | refine wD rfl ?_ | refine wE ?_ | refine wF (by omega) ?_ | ((first | refine wG ?_ | refine wH ?_ | refine wI ?_ | refine wJ ?_ | refine wK ?_ | refine wL ?_); simp (disch := omega) only [wP, wZ, undef, UInt8.reduceToNat, Nat.reduceOr, Nat.reduceAnd, Nat.reduceXor, Nat.reduceDiv, if_pos, if_neg, aStore, frz, AV.flat, ↓reduceIte, ne_eq, reduceCtorEq, Int.reduceToNat, Nat.reduceEqDiff, Nat.reduceAdd, Nat.reduceSub, Nat.reduceMul, Int.reduceAdd, Int.reduceMul, Int.reduceSub, Int.reduceLT, Int.reduceLE, Int.reduceEq, Int.reduceNe, Nat.reduceLeDiff, Nat.reduceLT, Int.reduceNeg, Nat.reducePow, Nat.reduceMod, ByteArray.size, dB1, dB2]))
            refine SWp.skip (le_mk rfl ?_ ?_ ?_)
            · show g1 ≤ g2
              omega
            iterate 2 (case _ => simp (disch := omega) only [wP, wZ, undef, UInt8.reduceToNat, Nat.reduceOr, Nat.reduceAnd, Nat.reduceXor, Nat.reduceDiv, if_pos, if_neg, aStore, frz, AV.flat, ↓reduceIte, ne_eq, reduceCtorEq, Int.reduceToNat, Nat.reduceEqDiff, Nat.reduceAdd, Nat.reduceSub, Nat.reduceMul, Int.reduceAdd, Int.reduceMul, Int.reduceSub, Int.reduceLT, Int.reduceLE, Int.reduceEq, Int.reduceNe, Nat.reduceLeDiff, Nat.reduceLT, Int.reduceNeg, Nat.reducePow, Nat.reduceMod, ByteArray.size, hY0, hsx, List.append_nil])
        · have dB1 : decide ((a : Int) < (s : Int)) = false := decide_eq_false (by omega)
          have hX0 : X1 = [] := List.eq_nil_of_length_eq_zero (by omega)
          have hsy := sortB_id sY1
          repeat (first | refine wA ?_ | refine wB ?_ | refine wC rfl ?_ | refine wD rfl ?_ | refine wE ?_ | refine wF (by omega) ?_ | ((first | refine wG ?_ | refine wH ?_ | refine wI ?_ | refine wJ ?_ | refine wK ?_ | refine wL ?_); simp (disch := omega) only [wP, wZ, undef, UInt8.reduceToNat, Nat.reduceOr, Nat.reduceAnd, Nat.reduceXor, Nat.reduceDiv, if_pos, if_neg, aStore, frz, AV.flat, ↓reduceIte, ne_eq, reduceCtorEq, Int.reduceToNat, Nat.reduceEqDiff, Nat.reduceAdd, Nat.reduceSub, Nat.reduceMul, Int.reduceAdd, Int.reduceMul, Int.reduceSub, Int.reduceLT, Int.reduceLE, Int.reduceEq, Int.reduceNe, Nat.reduceLeDiff, Nat.reduceLT, Int.reduceNeg, Nat.reducePow, Nat.reduceMod, ByteArray.size, dB1]))
          refine SWp.skip (le_mk rfl ?_ ?_ ?_)
          · show g1 ≤ g2
            omega
          iterate 2 (case _ => simp (disch := omega) only [wP, wZ, undef, UInt8.reduceToNat, Nat.reduceOr, Nat.reduceAnd, Nat.reduceXor, Nat.reduceDiv, if_pos, if_neg, aStore, frz, AV.flat, ↓reduceIte, ne_eq, reduceCtorEq, Int.reduceToNat, Nat.reduceEqDiff, Nat.reduceAdd, Nat.reduceSub, Nat.reduceMul, Int.reduceAdd, Int.reduceMul, Int.reduceSub, Int.reduceLT, Int.reduceLE, Int.reduceEq, Int.reduceNe, Nat.reduceLeDiff, Nat.reduceLT, Int.reduceNeg, Nat.reducePow, Nat.reduceMod, ByteArray.size, hX0, hsy, List.nil_append])
      have hfin : Pf ++ (sortB (X1 ++ Y1) ++ (sortB (X2 ++ Y2) ++ Tl)) = Pf ++ (sortB (X ++ Y) ++ Tl) := by rw [hcut]; simp
      by_cases ca : mid < e
      · have dC1 : decide ((mid : Int) < (e : Int)) = true := decide_eq_true (by omega)
        by_cases cb : e < b
        · have dC2 : decide ((e : Int) < (b : Int)) = true := decide_eq_true (by omega)
          have hrec := ih (X2.length + Y2.length) (by omega) (Pf ++ sortB (X1 ++ Y1)) X2 Y2 Tl N mid e b rfl (by rw [hN, hWl]; simp [length_sortB]; omega) hl (by simp [length_sortB]; omega) (by simp [length_sortB]; omega) (by omega) (by omega) (by omega) sX2 sY2
          simp only [List.append_assoc] at hrec
          rw [hfin] at hrec
          repeat (first | refine wA ?_ | refine wB ?_ | refine wC rfl ?_ | refine wD rfl ?_ | refine wE ?_ | refine wF (by omega) ?_ | ((first | refine wG ?_ | refine wH ?_ | refine wI ?_ | refine wJ ?_ | refine wK ?_ | refine wL ?_); simp (disch := omega) only [wP, wZ, undef, UInt8.reduceToNat, Nat.reduceOr, Nat.reduceAnd, Nat.reduceXor, Nat.reduceDiv, if_pos, if_neg, aStore, frz, AV.flat, ↓reduceIte, ne_eq, reduceCtorEq, Int.reduceToNat, Nat.reduceEqDiff, Nat.reduceAdd, Nat.reduceSub, Nat.reduceMul, Int.reduceAdd, Int.reduceMul, Int.reduceSub, Int.reduceLT, Int.reduceLE, Int.reduceEq, Int.reduceNe, Nat.reduceLeDiff, Nat.reduceLT, Int.reduceNeg, Nat.reducePow, Nat.reduceMod, ByteArray.size, dC1, dC2]))
          refine goC_h [(1000, 0)] 2000 hrec (by simp) (by simp) ?_ ?_ ?_
          iterate 2 (case _ => simp (disch := omega) only [wP, wZ, undef, UInt8.reduceToNat, Nat.reduceOr, Nat.reduceAnd, Nat.reduceXor, Nat.reduceDiv, if_pos, if_neg, aStore, frz, AV.flat, ↓reduceIte, ne_eq, reduceCtorEq, Int.reduceToNat, Nat.reduceEqDiff, Nat.reduceAdd, Nat.reduceSub, Nat.reduceMul, Int.reduceAdd, Int.reduceMul, Int.reduceSub, Int.reduceLT, Int.reduceLE, Int.reduceEq, Int.reduceNe, Nat.reduceLeDiff, Nat.reduceLT, Int.reduceNeg, Nat.reducePow, Nat.reduceMod, ByteArray.size, renL_bC, cmpF])
          repeat (first | refine wA ?_ | refine wB ?_ | refine wC rfl ?_ | refine wD rfl ?_ | refine wE ?_ | refine wF (by omega) ?_ | ((first | refine wG ?_ | refine wH ?_ | refine wI ?_ | refine wJ ?_ | refine wK ?_ | refine wL ?_); simp (disch := omega) only [wP, wZ, undef, UInt8.reduceToNat, Nat.reduceOr, Nat.reduceAnd, Nat.reduceXor, Nat.reduceDiv, if_pos, if_neg, aStore, frz, AV.flat, ↓reduceIte, ne_eq, reduceCtorEq, Int.reduceToNat, Nat.reduceEqDiff, Nat.reduceAdd, Nat.reduceSub, Nat.reduceMul, Int.reduceAdd, Int.reduceMul, Int.reduceSub, Int.reduceLT, Int.reduceLE, Int.reduceEq, Int.reduceNe, Nat.reduceLeDiff, Nat.reduceLT, Int.reduceNeg, Nat.reducePow, Nat.reduceMod, ByteArray.size, renL_bC, outOf_nil]))
          omega
        · have dC2 : decide ((e : Int) < (b : Int)) = false := decide_eq_false (by omega)
          have hY0 : Y2 = [] := List.eq_nil_of_length_eq_zero (by omega)
          have hsx := sortB_id sX2
          have hg : g2 ≤ KM n := by omega
          rw [hY0, List.append_nil, hsx] at hfin
          repeat (first | refine wA ?_ | refine wB ?_ | refine wC rfl ?_ | refine wD rfl ?_ | refine wE ?_ | refine wF (by omega) ?_ | ((first | refine wG ?_ | refine wH ?_ | refine wI ?_ | refine wJ ?_ | refine wK ?_ | refine wL ?_); simp (disch := omega) only [wP, wZ, undef, UInt8.reduceToNat, Nat.reduceOr, Nat.reduceAnd, Nat.reduceXor, Nat.reduceDiv, if_pos, if_neg, aStore, frz, AV.flat, ↓reduceIte, ne_eq, reduceCtorEq, Int.reduceToNat, Nat.reduceEqDiff, Nat.reduceAdd, Nat.reduceSub, Nat.reduceMul, Int.reduceAdd, Int.reduceMul, Int.reduceSub, Int.reduceLT, Int.reduceLE, Int.reduceEq, Int.reduceNe, Nat.reduceLeDiff, Nat.reduceLT, Int.reduceNeg, Nat.reducePow, Nat.reduceMod, ByteArray.size, dC1, dC2, outOf_nil, hY0, List.nil_append, hfin, hg]))
      · have dC1 : decide ((mid : Int) < (e : Int)) = false := decide_eq_false (by omega)
        have hX0 : X2 = [] := List.eq_nil_of_length_eq_zero (by omega)
        have hsy := sortB_id sY2
        have hg : g2 ≤ KM n := by omega
        rw [hX0, List.nil_append, hsy] at hfin
        repeat (first | refine wA ?_ | refine wB ?_ | refine wC rfl ?_ | refine wD rfl ?_ | refine wE ?_ | refine wF (by omega) ?_ | ((first | refine wG ?_ | refine wH ?_ | refine wI ?_ | refine wJ ?_ | refine wK ?_ | refine wL ?_); simp (disch := omega) only [wP, wZ, undef, UInt8.reduceToNat, Nat.reduceOr, Nat.reduceAnd, Nat.reduceXor, Nat.reduceDiv, if_pos, if_neg, aStore, frz, AV.flat, ↓reduceIte, ne_eq, reduceCtorEq, Int.reduceToNat, Nat.reduceEqDiff, Nat.reduceAdd, Nat.reduceSub, Nat.reduceMul, Int.reduceAdd, Int.reduceMul, Int.reduceSub, Int.reduceLT, Int.reduceLE, Int.reduceEq, Int.reduceNe, Nat.reduceLeDiff, Nat.reduceLT, Int.reduceNeg, Nat.reducePow, Nat.reduceMod, ByteArray.size, dC1, outOf_nil, hX0, List.nil_append, hfin, hg]))
  · have dm : decide ((m : Int) > (mid : Int)) = false := decide_eq_false (by omega)
    obtain ⟨s0, hs0⟩ : ∃ s0, s0 = a := ⟨_, rfl⟩
    obtain ⟨r0, hr0⟩ : ∃ r0, r0 = m := ⟨_, rfl⟩
    have b1 : a ≤ s0 := by omega
    have b2 : s0 ≤ r0 := by omega
    have b3 : r0 ≤ m := by omega
    have b4 : nn - s0 ≤ b := by omega
    have b5 : m ≤ nn - r0 := by omega
    have i1 : ∀ x ∈ X.take (s0 - a), ∀ y ∈ Y.drop (nn - s0 - m), x.1 ≤ y.1 := fun x hx => by
      rw [show s0 - a = 0 from by omega] at hx; simp at hx
    have i2 : ∀ y ∈ Y.take (nn - r0 - m), ∀ x ∈ X.drop (r0 - a), y.1 < x.1 := fun y _ x hx => by
      rw [List.drop_of_length_le (by omega)] at hx; simp at hx
    repeat (first | refine wA ?_ | refine wB ?_ | refine wC rfl ?_ | refine wD rfl ?_ | refine wE ?_ | refine wF (by omega) ?_ | ((first | refine wG ?_ | refine wH ?_ | refine wI ?_ | refine wJ ?_ | refine wK ?_ | refine wL ?_); simp (disch := omega) only [wP, wZ, undef, UInt8.reduceToNat, Nat.reduceOr, Nat.reduceAnd, Nat.reduceXor, Nat.reduceDiv, if_pos, if_neg, aStore, frz, AV.flat, ↓reduceIte, ne_eq, reduceCtorEq, Int.reduceToNat, Nat.reduceEqDiff, Nat.reduceAdd, Nat.reduceSub, Nat.reduceMul, Int.reduceAdd, Int.reduceMul, Int.reduceSub, Int.reduceLT, Int.reduceLE, Int.reduceEq, Int.reduceNe, Nat.reduceLeDiff, Nat.reduceLT, Int.reduceNeg, Nat.reducePow, Nat.reduceMod, ByteArray.size, d0, d00, emid, enn, dm, epp]))
    refine SWp.loop (α := Nat × Nat) (fun p => mk 220 1 [(0, .own 1000 0 (some 2) 0 N), (1, int a), (2, int m), (3, int b), (4, cmpF), (18, int mid), (19, int nn), (20, int p.1), (21, int p.2), (22, int pp)] [(1000, 0, .row false (bC W))])
      (fun p => a ≤ p.1 ∧ p.1 ≤ p.2 ∧ p.2 ≤ m ∧ nn - p.1 ≤ b ∧ m ≤ nn - p.2 ∧ (∀ x ∈ X.take (p.1 - a), ∀ y ∈ Y.drop (nn - p.1 - m), x.1 ≤ y.1) ∧ (∀ y ∈ Y.take (nn - p.2 - m), ∀ x ∈ X.drop (p.2 - a), y.1 < x.1)) (fun p => p.2 - p.1) (s0, r0) ⟨b1, b2, b3, b4, b5, i1, i2⟩ (le_mk rfl ?_ ?_ ?_) ?_
    · exact Nat.le_refl _
    iterate 2 (case _ => simp (disch := omega) only [wP, wZ, undef, UInt8.reduceToNat, Nat.reduceOr, Nat.reduceAnd, Nat.reduceXor, Nat.reduceDiv, if_pos, if_neg, aStore, frz, AV.flat, ↓reduceIte, ne_eq, reduceCtorEq, Int.reduceToNat, Nat.reduceEqDiff, Nat.reduceAdd, Nat.reduceSub, Nat.reduceMul, Int.reduceAdd, Int.reduceMul, Int.reduceSub, Int.reduceLT, Int.reduceLE, Int.reduceEq, Int.reduceNe, Nat.reduceLeDiff, Nat.reduceLT, Int.reduceNeg, Nat.reducePow, Nat.reduceMod, ByteArray.size, hs0, hr0])
    clear i1 i2 b1 b2 b3 b4 b5
    rintro ⟨s, r⟩ ⟨b1, b2, b3, b4, b5, i1, i2⟩ -
    simp only at b1 b2 b3 b4 b5 i1 i2
    repeat (first | refine wA ?_ | refine wB ?_ | refine wC rfl ?_ | refine wD rfl ?_ | refine wE ?_ | refine wF (by omega) ?_ | ((first | refine wG ?_ | refine wH ?_ | refine wI ?_ | refine wJ ?_ | refine wK ?_ | refine wL ?_); simp (disch := omega) only [wP, wZ, undef, UInt8.reduceToNat, Nat.reduceOr, Nat.reduceAnd, Nat.reduceXor, Nat.reduceDiv, if_pos, if_neg, aStore, frz, AV.flat, ↓reduceIte, ne_eq, reduceCtorEq, Int.reduceToNat, Nat.reduceEqDiff, Nat.reduceAdd, Nat.reduceSub, Nat.reduceMul, Int.reduceAdd, Int.reduceMul, Int.reduceSub, Int.reduceLT, Int.reduceLE, Int.reduceEq, Int.reduceNe, Nat.reduceLeDiff, Nat.reduceLT, Int.reduceNeg, Nat.reducePow, Nat.reduceMod, ByteArray.size]))
    refine SWp.cond rfl (fun h => ?_) (fun h => ?_)
    · simp only [decide_eq_true_eq] at h
      obtain ⟨q, hq⟩ : ∃ q, q = (s + r) / 2 := ⟨_, rfl⟩
      obtain ⟨e, he⟩ : ∃ e, e = pp - q := ⟨_, rfl⟩
      have eq1 : IntKind.i64.wrap ((IntKind.u64.wrap ((s : Int) + (r : Int))).fdiv (2 ^ 1)) = (q : Int) := by
        rw [wrap_u64_id3 (by omega) (by omega), show ((2 : Int) ^ 1) = 2 from rfl, Int.fdiv_eq_ediv_of_nonneg _ (by omega), wrap_i64_id (by omega) (by omega)]
        omega
      have eq2 : (pp : Int) - (q : Int) = (e : Int) := by omega
      obtain ⟨u, hu⟩ : ∃ u, u = q - a := ⟨_, rfl⟩
      obtain ⟨v, hv⟩ : ∃ v, v = e - m := ⟨_, rfl⟩
      have huX : u < X.length := by omega
      have hvY : v < Y.length := by omega
      have hql : q < W.length := by omega
      have hel : e < W.length := by omega
      have e1 := load_bC hql
      have e2 := load_bC hel
      have g1 : W.getD q (0, []) = X.getD u (0, []) := by
        rw [hW]
        simp only [List.getD]
        rw [List.getElem?_append_right (by omega), show q - Pf.length = u from by omega, List.getElem?_append_left huX]
      have g2 : W.getD e (0, []) = Y.getD v (0, []) := by
        rw [hW]
        simp only [List.getD]
        rw [List.getElem?_append_right (by omega), List.getElem?_append_right (by omega), show e - Pf.length - X.length = v from by omega, List.getElem?_append_left hvY]
      obtain ⟨x, hx⟩ : ∃ x, x = X.getD u (0, []) := ⟨_, rfl⟩
      obtain ⟨y, hy⟩ : ∃ y, y = Y.getD v (0, []) := ⟨_, rfl⟩
      rw [g1, ← hx] at e1
      rw [g2, ← hy] at e2
      have e3 : (bC W).length = N * 2 := by rw [length_bC, hN]
      have heN : e * 2 + 2 ≤ N * 2 := by omega
      have hqN : q * 2 + 2 ≤ N * 2 := by omega
      have x1 := srt_take hX huX
      have x2 := srt_drop hX huX
      have y1 := srt_take hY hvY
      have y2 := srt_drop hY hvY
      rw [← hx] at x1 x2
      rw [← hy] at y1 y2
      repeat (first | refine wA ?_ | refine wB ?_ | refine wC rfl ?_ | refine wD rfl ?_ | refine wE ?_ | refine wF (by omega) ?_ | ((first | refine wG ?_ | refine wH ?_ | refine wI ?_ | refine wJ ?_ | refine wK ?_ | refine wL ?_); simp (disch := omega) only [wP, wZ, undef, UInt8.reduceToNat, Nat.reduceOr, Nat.reduceAnd, Nat.reduceXor, Nat.reduceDiv, if_pos, if_neg, aStore, frz, AV.flat, ↓reduceIte, ne_eq, reduceCtorEq, Int.reduceToNat, Nat.reduceEqDiff, Nat.reduceAdd, Nat.reduceSub, Nat.reduceMul, Int.reduceAdd, Int.reduceMul, Int.reduceSub, Int.reduceLT, Int.reduceLE, Int.reduceEq, Int.reduceNe, Nat.reduceLeDiff, Nat.reduceLT, Int.reduceNeg, Nat.reducePow, Nat.reduceMod, ByteArray.size, eq1, eq2, e1, e2, e3]))
      refine goV_at n_huff_byCount rfl (by decide) ?_
      refine goC_p _ (.inl ⟨by simp only [AV.free, AV.free.freeL, nA, free_nA, Bool.and_self], huff_byCount_c (y.1 : Int) (x.1 : Int) _ _ (by simp only [AV.free, free_nA]) (by simp only [AV.free, free_nA])⟩) ?_
      by_cases c : y.1 < x.1
      · have dc : decide (cmpI (y.1 : Int) (x.1 : Int) < 0) = true := by
          unfold cmpI; rw [if_pos (by omega)]; rfl
        repeat (first | refine wA ?_ | refine wB ?_ | refine wC rfl ?_ | refine wD rfl ?_ | refine wE ?_ | refine wF (by omega) ?_ | ((first | refine wG ?_ | refine wH ?_ | refine wI ?_ | refine wJ ?_ | refine wK ?_ | refine wL ?_); simp (disch := omega) only [wP, wZ, undef, UInt8.reduceToNat, Nat.reduceOr, Nat.reduceAnd, Nat.reduceXor, Nat.reduceDiv, if_pos, if_neg, aStore, frz, AV.flat, ↓reduceIte, ne_eq, reduceCtorEq, Int.reduceToNat, Nat.reduceEqDiff, Nat.reduceAdd, Nat.reduceSub, Nat.reduceMul, Int.reduceAdd, Int.reduceMul, Int.reduceSub, Int.reduceLT, Int.reduceLE, Int.reduceEq, Int.reduceNe, Nat.reduceLeDiff, Nat.reduceLT, Int.reduceNeg, Nat.reducePow, Nat.reduceMod, ByteArray.size, dc]))
        refine At.of (s, q) ⟨b1, by simp only; omega, by simp only; omega, b4, by simp only; omega, i1, fun y' hy' x' hx' => ?_⟩ (by simp only; omega) rfl rfl (Nat.le_refl _) ?_ ?_
        · simp only at hy' hx'
          rw [show nn - q - m = v + 1 from by omega] at hy'
          rw [show q - a = u from by omega] at hx'
          have h1 := y1 y' hy'
          have h2 := x2 x' hx'
          omega
        · simp (disch := omega) only [wP, wZ, undef, UInt8.reduceToNat, Nat.reduceOr, Nat.reduceAnd, Nat.reduceXor, Nat.reduceDiv, if_pos, if_neg, aStore, frz, AV.flat, ↓reduceIte, ne_eq, reduceCtorEq, Int.reduceToNat, Nat.reduceEqDiff, Nat.reduceAdd, Nat.reduceSub, Nat.reduceMul, Int.reduceAdd, Int.reduceMul, Int.reduceSub, Int.reduceLT, Int.reduceLE, Int.reduceEq, Int.reduceNe, Nat.reduceLeDiff, Nat.reduceLT, Int.reduceNeg, Nat.reducePow, Nat.reduceMod, ByteArray.size]
          try omega
        · simp (disch := omega) only [wP, wZ, undef, UInt8.reduceToNat, Nat.reduceOr, Nat.reduceAnd, Nat.reduceXor, Nat.reduceDiv, if_pos, if_neg, aStore, frz, AV.flat, ↓reduceIte, ne_eq, reduceCtorEq, Int.reduceToNat, Nat.reduceEqDiff, Nat.reduceAdd, Nat.reduceSub, Nat.reduceMul, Int.reduceAdd, Int.reduceMul, Int.reduceSub, Int.reduceLT, Int.reduceLE, Int.reduceEq, Int.reduceNe, Nat.reduceLeDiff, Nat.reduceLT, Int.reduceNeg, Nat.reducePow, Nat.reduceMod, ByteArray.size]
      · have dc : decide (cmpI (y.1 : Int) (x.1 : Int) < 0) = false := by
          unfold cmpI; rw [if_neg (by omega)]; split <;> rfl
        repeat (first | refine wA ?_ | refine wB ?_ | refine wC rfl ?_ | refine wD rfl ?_ | refine wE ?_ | refine wF (by omega) ?_ | ((first | refine wG ?_ | refine wH ?_ | refine wI ?_ | refine wJ ?_ | refine wK ?_ | refine wL ?_); simp (disch := omega) only [wP, wZ, undef, UInt8.reduceToNat, Nat.reduceOr, Nat.reduceAnd, Nat.reduceXor, Nat.reduceDiv, if_pos, if_neg, aStore, frz, AV.flat, ↓reduceIte, ne_eq, reduceCtorEq, Int.reduceToNat, Nat.reduceEqDiff, Nat.reduceAdd, Nat.reduceSub, Nat.reduceMul, Int.reduceAdd, Int.reduceMul, Int.reduceSub, Int.reduceLT, Int.reduceLE, Int.reduceEq, Int.reduceNe, Nat.reduceLeDiff, Nat.reduceLT, Int.reduceNeg, Nat.reducePow, Nat.reduceMod, ByteArray.size, dc]))
        refine At.of (q + 1, r) ⟨by simp only; omega, by simp only; omega, b3, by simp only; omega, b5, fun x' hx' y' hy' => ?_, i2⟩ (by simp only; omega) rfl rfl (Nat.le_refl _) ?_ ?_
        · simp only at hy' hx'
          rw [show nn - (q + 1) - m = v from by omega] at hy'
          rw [show q + 1 - a = u + 1 from by omega] at hx'
          have h1 := x1 x' hx'
          have h2 := y2 y' hy'
          omega
        · simp (disch := omega) only [wP, wZ, undef, UInt8.reduceToNat, Nat.reduceOr, Nat.reduceAnd, Nat.reduceXor, Nat.reduceDiv, if_pos, if_neg, aStore, frz, AV.flat, ↓reduceIte, ne_eq, reduceCtorEq, Int.reduceToNat, Nat.reduceEqDiff, Nat.reduceAdd, Nat.reduceSub, Nat.reduceMul, Int.reduceAdd, Int.reduceMul, Int.reduceSub, Int.reduceLT, Int.reduceLE, Int.reduceEq, Int.reduceNe, Nat.reduceLeDiff, Nat.reduceLT, Int.reduceNeg, Nat.reducePow, Nat.reduceMod, ByteArray.size]
          try omega
        · simp (disch := omega) only [wP, wZ, undef, UInt8.reduceToNat, Nat.reduceOr, Nat.reduceAnd, Nat.reduceXor, Nat.reduceDiv, if_pos, if_neg, aStore, frz, AV.flat, ↓reduceIte, ne_eq, reduceCtorEq, Int.reduceToNat, Nat.reduceEqDiff, Nat.reduceAdd, Nat.reduceSub, Nat.reduceMul, Int.reduceAdd, Int.reduceMul, Int.reduceSub, Int.reduceLT, Int.reduceLE, Int.reduceEq, Int.reduceNe, Nat.reduceLeDiff, Nat.reduceLT, Int.reduceNeg, Nat.reducePow, Nat.reduceMod, ByteArray.size]
    · simp only [decide_eq_false_iff_not] at h
      obtain rfl : s = r := by omega
      obtain ⟨X1, hX1'⟩ : ∃ X1, X1 = X.take (s - a) := ⟨_, rfl⟩
      obtain ⟨X2, hX2'⟩ : ∃ X2, X2 = X.drop (s - a) := ⟨_, rfl⟩
      obtain ⟨Y1, hY1'⟩ : ∃ Y1, Y1 = Y.take (nn - s - m) := ⟨_, rfl⟩
      obtain ⟨Y2, hY2'⟩ : ∃ Y2, Y2 = Y.drop (nn - s - m) := ⟨_, rfl⟩
      rw [← hX1', ← hY2'] at i1
      rw [← hY1', ← hX2'] at i2
      have hXX : X = X1 ++ X2 := by rw [hX1', hX2', List.take_append_drop]
      have hYY : Y = Y1 ++ Y2 := by rw [hY1', hY2', List.take_append_drop]
      obtain ⟨e, he⟩ : ∃ e, e = nn - s := ⟨_, rfl⟩
      have l1 : X1.length = s - a := by rw [hX1', List.length_take]; omega
      have l2 : X2.length = m - s := by rw [hX2', List.length_drop]; omega
      have l3 : Y1.length = e - m := by rw [hY1', List.length_take]; omega
      have l4 : Y2.length = b - e := by rw [hY2', List.length_drop]; omega
      have eens : (nn : Int) - (s : Int) = (e : Int) := by omega
      have hWl : W = Pf ++ (X1 ++ (X2 ++ (Y1 ++ (Y2 ++ Tl)))) := by rw [hW, hXX, hYY]; simp
      have sX := hX
      have sY := hY
      rw [hXX] at sX
      rw [hYY] at sY
      have hcut := sortB_cut sX sY i1 i2
      rw [← hXX, ← hYY] at hcut
      obtain ⟨sX1, sX2, _⟩ := List.pairwise_append.1 sX
      obtain ⟨sY1, sY2, _⟩ := List.pairwise_append.1 sY
      iterate 4 (first | refine wA ?_ | refine wB ?_ | refine wC rfl ?_ | refine wD rfl ?_ | refine wE ?_ | refine wF (by omega) ?_ | ((first | refine wG ?_ | refine wH ?_ | refine wI ?_ | refine wJ ?_ | refine wK ?_ | refine wL ?_); simp (disch := omega) only [wP, wZ, undef, UInt8.reduceToNat, Nat.reduceOr, Nat.reduceAnd, Nat.reduceXor, Nat.reduceDiv, if_pos, if_neg, aStore, frz, AV.flat, ↓reduceIte, ne_eq, reduceCtorEq, Int.reduceToNat, Nat.reduceEqDiff, Nat.reduceAdd, Nat.reduceSub, Nat.reduceMul, Int.reduceAdd, Int.reduceMul, Int.reduceSub, Int.reduceLT, Int.reduceLE, Int.reduceEq, Int.reduceNe, Nat.reduceLeDiff, Nat.reduceLT, Int.reduceNeg, Nat.reducePow, Nat.reduceMod, ByteArray.size, eens]))
      have lp : X1.length + Y1.length = mid - a := by omega
      have lq : X2.length + Y2.length = b - mid := by omega
      have hKK := KM_add (p := X1.length + Y1.length) (q := X2.length + Y2.length) (by omega) (by omega)
      rw [show X1.length + Y1.length + (X2.length + Y2.length) = n from by omega] at hKK
      obtain ⟨g1, hg1⟩ : ∃ g1, g1 = 1 + (2 + (X2.length + Y1.length)) := ⟨_, rfl⟩
      refine SWp.toT (F := mk 220 g1 [(0, .own 1000 0 (some 2) 0 N), (1, int a), (2, int m), (3, int b), (4, cmpF), (18, int mid), (20, int s), (24, int e)] [(1000, 0, .row false (bC (Pf ++ (X1 ++ (Y1 ++ (X2 ++ (Y2 ++ Tl)))))))]) ?_ ?_
      · by_cases ca : s < m
        · have dA1 : decide ((s : Int) < (m : Int)) = true := decide_eq_true (by omega)
          by_cases cb : m < e
          · have dA2 : decide ((m : Int) < (e : Int)) = true := decide_eq_true (by omega)
            have hrot := slices_rotate_h (Pf ++ X1) X2 Y1 (Y2 ++ Tl) N s m e (by rw [hN, hWl]; simp) hl (by simp; omega) (by simp; omega) (by simp; omega) (by omega) (by omega)
            simp only [List.append_assoc] at hrot
            rw [← hWl] at hrot
            repeat (first | refine wA ?_ | refine wB ?_ | refine wC rfl ?_ | refine wD rfl ?_ | refine wE ?_ | refine wF (by omega) ?_ | ((first | refine wG ?_ | refine wH ?_ | refine wI ?_ | refine wJ ?_ | refine wK ?_ | refine wL ?_); simp (disch := omega) only [wP, wZ, undef, UInt8.reduceToNat, Nat.reduceOr, Nat.reduceAnd, Nat.reduceXor, Nat.reduceDiv, if_pos, if_neg, aStore, frz, AV.flat, ↓reduceIte, ne_eq, reduceCtorEq, Int.reduceToNat, Nat.reduceEqDiff, Nat.reduceAdd, Nat.reduceSub, Nat.reduceMul, Int.reduceAdd, Int.reduceMul, Int.reduceSub, Int.reduceLT, Int.reduceLE, Int.reduceEq, Int.reduceNe, Nat.reduceLeDiff, Nat.reduceLT, Int.reduceNeg, Nat.reducePow, Nat.reduceMod, ByteArray.size, dA1, dA2]))
            refine goC_h [(1000, 0)] 2000 hrot (by simp) (by simp) ?_ ?_ ?_
            iterate 2 (case _ => simp (disch := omega) only [wP, wZ, undef, UInt8.reduceToNat, Nat.reduceOr, Nat.reduceAnd, Nat.reduceXor, Nat.reduceDiv, if_pos, if_neg, aStore, frz, AV.flat, ↓reduceIte, ne_eq, reduceCtorEq, Int.reduceToNat, Nat.reduceEqDiff, Nat.reduceAdd, Nat.reduceSub, Nat.reduceMul, Int.reduceAdd, Int.reduceMul, Int.reduceSub, Int.reduceLT, Int.reduceLE, Int.reduceEq, Int.reduceNe, Nat.reduceLeDiff, Nat.reduceLT, Int.reduceNeg, Nat.reducePow, Nat.reduceMod, ByteArray.size, renL_bC, cmpF])
            repeat (first | refine wA ?_ | refine wB ?_ | refine wC rfl ?_ | refine wD rfl ?_ | refine wE ?_ | refine wF (by omega) ?_ | ((first | refine wG ?_ | refine wH ?_ | refine wI ?_ | refine wJ ?_ | refine wK ?_ | refine wL ?_); simp (disch := omega) only [wP, wZ, undef, UInt8.reduceToNat, Nat.reduceOr, Nat.reduceAnd, Nat.reduceXor, Nat.reduceDiv, if_pos, if_neg, aStore, frz, AV.flat, ↓reduceIte, ne_eq, reduceCtorEq, Int.reduceToNat, Nat.reduceEqDiff, Nat.reduceAdd, Nat.reduceSub, Nat.reduceMul, Int.reduceAdd, Int.reduceMul, Int.reduceSub, Int.reduceLT, Int.reduceLE, Int.reduceEq, Int.reduceNe, Nat.reduceLeDiff, Nat.reduceLT, Int.reduceNeg, Nat.reducePow, Nat.reduceMod, ByteArray.size, renL_bC]))
            refine le_mk rfl ?_ ?_ ?_
            · show 1 + (2 + (X2.length + Y1.length)) ≤ g1
              omega
            iterate 2 (case _ => simp (disch := omega) only [wP, wZ, undef, UInt8.reduceToNat, Nat.reduceOr, Nat.reduceAnd, Nat.reduceXor, Nat.reduceDiv, if_pos, if_neg, aStore, frz, AV.flat, ↓reduceIte, ne_eq, reduceCtorEq, Int.reduceToNat, Nat.reduceEqDiff, Nat.reduceAdd, Nat.reduceSub, Nat.reduceMul, Int.reduceAdd, Int.reduceMul, Int.reduceSub, Int.reduceLT, Int.reduceLE, Int.reduceEq, Int.reduceNe, Nat.reduceLeDiff, Nat.reduceLT, Int.reduceNeg, Nat.reducePow, Nat.reduceMod, ByteArray.size])
          · have dA2 : decide ((m : Int) < (e : Int)) = false := decide_eq_false (by omega)
            have hY0 : Y1 = [] := List.eq_nil_of_length_eq_zero (by omega)
            repeat (first | refine wA ?_ | refine wB ?_ | refine wC rfl ?_ | refine wD rfl ?_ | refine wE ?_ | refine wF (by omega) ?_ | ((first | refine wG ?_ | refine wH ?_ | refine wI ?_ | refine wJ ?_ | refine wK ?_ | refine wL ?_); simp (disch := omega) only [wP, wZ, undef, UInt8.reduceToNat, Nat.reduceOr, Nat.reduceAnd, Nat.reduceXor, Nat.reduceDiv, if_pos, if_neg, aStore, frz, AV.flat, ↓reduceIte, ne_eq, reduceCtorEq, Int.reduceToNat, Nat.reduceEqDiff, Nat.reduceAdd, Nat.reduceSub, Nat.reduceMul, Int.reduceAdd, Int.reduceMul, Int.reduceSub, Int.reduceLT, Int.reduceLE, Int.reduceEq, Int.reduceNe, Nat.reduceLeDiff, Nat.reduceLT, Int.reduceNeg, Nat.reducePow, Nat.reduceMod, ByteArray.size, dA1, dA2]))
            refine SWp.skip (le_mk rfl ?_ ?_ ?_)
            · show 1 ≤ g1
              omega
            iterate 2 (case _ => simp (disch := omega) only [wP, wZ, undef, UInt8.reduceToNat, Nat.reduceOr, Nat.reduceAnd, Nat.reduceXor, Nat.reduceDiv, if_pos, if_neg, aStore, frz, AV.flat, ↓reduceIte, ne_eq, reduceCtorEq, Int.reduceToNat, Nat.reduceEqDiff, Nat.reduceAdd, Nat.reduceSub, Nat.reduceMul, Int.reduceAdd, Int.reduceMul, Int.reduceSub, Int.reduceLT, Int.reduceLE, Int.reduceEq, Int.reduceNe, Nat.reduceLeDiff, Nat.reduceLT, Int.reduceNeg, Nat.reducePow, Nat.reduceMod, ByteArray.size, hWl, hY0])
        · have dA1 : decide ((s : Int) < (m : Int)) = false := decide_eq_false (by omega)
          have hX0 : X2 = [] := List.eq_nil_of_length_eq_zero (by omega)
          repeat (first | refine wA ?_ | refine wB ?_ | refine wC rfl ?_ | refine wD rfl ?_ | refine wE ?_ | refine wF (by omega) ?_ | ((first | refine wG ?_ | refine wH ?_ | refine wI ?_ | refine wJ ?_ | refine wK ?_ | refine wL ?_); simp (disch := omega) only [wP, wZ, undef, UInt8.reduceToNat, Nat.reduceOr, Nat.reduceAnd, Nat.reduceXor, Nat.reduceDiv, if_pos, if_neg, aStore, frz, AV.flat, ↓reduceIte, ne_eq, reduceCtorEq, Int.reduceToNat, Nat.reduceEqDiff, Nat.reduceAdd, Nat.reduceSub, Nat.reduceMul, Int.reduceAdd, Int.reduceMul, Int.reduceSub, Int.reduceLT, Int.reduceLE, Int.reduceEq, Int.reduceNe, Nat.reduceLeDiff, Nat.reduceLT, Int.reduceNeg, Nat.reducePow, Nat.reduceMod, ByteArray.size, dA1]))
          refine SWp.skip (le_mk rfl ?_ ?_ ?_)
          · show 1 ≤ g1
            omega
          iterate 2 (case _ => simp (disch := omega) only [wP, wZ, undef, UInt8.reduceToNat, Nat.reduceOr, Nat.reduceAnd, Nat.reduceXor, Nat.reduceDiv, if_pos, if_neg, aStore, frz, AV.flat, ↓reduceIte, ne_eq, reduceCtorEq, Int.reduceToNat, Nat.reduceEqDiff, Nat.reduceAdd, Nat.reduceSub, Nat.reduceMul, Int.reduceAdd, Int.reduceMul, Int.reduceSub, Int.reduceLT, Int.reduceLE, Int.reduceEq, Int.reduceNe, Nat.reduceLeDiff, Nat.reduceLT, Int.reduceNeg, Nat.reducePow, Nat.reduceMod, ByteArray.size, hWl, hX0])
      obtain ⟨g2, hg2⟩ : ∃ g2, g2 = g1 + KM (X1.length + Y1.length) := ⟨_, rfl⟩
      refine SWp.to (F := mk 220 g2 [(0, .own 1000 0 (some 2) 0 N), (1, int a), (2, int m), (3, int b), (4, cmpF), (18, int mid), (20, int s), (24, int e)] [(1000, 0, .row false (bC (Pf ++ (sortB (X1 ++ Y1) ++ (X2 ++ (Y2 ++ Tl))))))]) ?_ ?_
      · by_cases ca : a < s
        · have dB1 : decide ((a : Int) < (s : Int)) = true := decide_eq_true (by omega)
          by_cases cb : s < mid
          · have dB2 : decide ((s : Int) < (mid : Int)) = true := decide_eq_true (by omega)
            have hrec := ih (X1.length + Y1.length) (by omega) Pf X1 Y1 (X2 ++ (Y2 ++ Tl)) N a s mid rfl (by rw [hN, hWl]; simp; omega) hl ha (by omega) (by omega) (by omega) (by omega) sX1 sY1
            repeat (first | refine wA ?_ | refine wB ?_ | refine wC rfl ?_ | refine wD rfl ?_ | refine wE ?_ | refine wF (by omega) ?_ | ((first | refine wG ?_ | refine wH ?_ | refine wI ?_ | refine wJ ?_ | refine wK ?_ | refine wL ?_); simp (disch := omega) only [wP, wZ, undef, UInt8.reduceToNat, Nat.reduceOr, Nat.reduceAnd, Nat.reduceXor, Nat.reduceDiv, if_pos, if_neg, aStore, frz, AV.flat, ↓reduceIte, ne_eq, reduceCtorEq, Int.reduceToNat, Nat.reduceEqDiff, Nat.reduceAdd, Nat.reduceSub, Nat.reduceMul, Int.reduceAdd, Int.reduceMul, Int.reduceSub, Int.reduceLT, Int.reduceLE, Int.reduceEq, Int.reduceNe, Nat.reduceLeDiff, Nat.reduceLT, Int.reduceNeg, Nat.reducePow, Nat.reduceMod, ByteArray.size, dB1, dB2]))
            refine goC_h [(1000, 0)] 2000 hrec (by simp) (by simp) ?_ ?_ ?_
            iterate 2 (case _ => simp (disch := omega) only [wP, wZ, undef, UInt8.reduceToNat, Nat.reduceOr, Nat.reduceAnd, Nat.reduceXor, Nat.reduceDiv, if_pos, if_neg, aStore, frz, AV.flat, ↓reduceIte, ne_eq, reduceCtorEq, Int.reduceToNat, Nat.reduceEqDiff, Nat.reduceAdd, Nat.reduceSub, Nat.reduceMul, Int.reduceAdd, Int.reduceMul, Int.reduceSub, Int.reduceLT, Int.reduceLE, Int.reduceEq, Int.reduceNe, Nat.reduceLeDiff, Nat.reduceLT, Int.reduceNeg, Nat.reducePow, Nat.reduceMod, ByteArray.size, renL_bC, cmpF])
            repeat (first | refine wA ?_ | refine wB ?_ | refine wC rfl ?_ | refine wD rfl ?_ | refine wE ?_ | refine wF (by omega) ?_ | ((first | refine wG ?_ | refine wH ?_ | refine wI ?_ | refine wJ ?_ | refine wK ?_ | refine wL ?_); simp (disch := omega) only [wP, wZ, undef, UInt8.reduceToNat, Nat.reduceOr, Nat.reduceAnd, Nat.reduceXor, Nat.reduceDiv, if_pos, if_neg, aStore, frz, AV.flat, ↓reduceIte, ne_eq, reduceCtorEq, Int.reduceToNat, Nat.reduceEqDiff, Nat.reduceAdd, Nat.reduceSub, Nat.reduceMul, Int.reduceAdd, Int.reduceMul, Int.reduceSub, Int.reduceLT, Int.reduceLE, Int.reduceEq, Int.reduceNe, Nat.reduceLeDiff, Nat.reduceLT, Int.reduceNeg, Nat.reducePow, Nat.reduceMod, ByteArray.size, renL_bC]))
            refine le_mk rfl ?_ ?_ ?_
            · show g1 + KM (X1.length + Y1.length) ≤ g2
              omega
            iterate 2 (case _ => simp (disch := omega) only [wP, wZ, undef, UInt8.reduceToNat, Nat.reduceOr, Nat.reduceAnd, Nat.reduceXor, Nat.reduceDiv, if_pos, if_neg, aStore, frz, AV.flat, ↓reduceIte, ne_eq, reduceCtorEq, Int.reduceToNat, Nat.reduceEqDiff, Nat.reduceAdd, Nat.reduceSub, Nat.reduceMul, Int.reduceAdd, Int.reduceMul, Int.reduceSub, Int.reduceLT, Int.reduceLE, Int.reduceEq, Int.reduceNe, Nat.reduceLeDiff, Nat.reduceLT, Int.reduceNeg, Nat.reducePow, Nat.reduceMod, ByteArray.size])
          · have dB2 : decide ((s : Int) < (mid : Int)) = false := decide_eq_false (by omega)
            have hY0 : Y1 = [] := List.eq_nil_of_length_eq_zero (by omega)
            have hsx := sortB_id sX1
            repeat (first | refine wA ?_ | refine wB ?_ | refine wC rfl ?_ | refine wD rfl ?_ | refine wE ?_ | refine wF (by omega) ?_ | ((first | refine wG ?_ | refine wH ?_ | refine wI ?_ | refine wJ ?_ | refine wK ?_ | refine wL ?_); simp (disch := omega) only [wP, wZ, undef, UInt8.reduceToNat, Nat.reduceOr, Nat.reduceAnd, Nat.reduceXor, Nat.reduceDiv, if_pos, if_neg, aStore, frz, AV.flat, ↓reduceIte, ne_eq, reduceCtorEq, Int.reduceToNat, Nat.reduceEqDiff, Nat.reduceAdd, Nat.reduceSub, Nat.reduceMul, Int.reduceAdd, Int.reduceMul, Int.reduceSub, Int.reduceLT, Int.reduceLE, Int.reduceEq, Int.reduceNe, Nat.reduceLeDiff, Nat.reduceLT, Int.reduceNeg, Nat.reducePow, Nat.reduceMod, ByteArray.size, dB1, dB2]))
            refine SWp.skip (le_mk rfl ?_ ?_ ?_)
            · show g1 ≤ g2
              omega
            iterate 2 (case _ => simp (disch := omega) only [wP, wZ, undef, UInt8.reduceToNat, Nat.reduceOr, Nat.reduceAnd, Nat.reduceXor, Nat.reduceDiv, if_pos, if_neg, aStore, frz, AV.flat, ↓reduceIte, ne_eq, reduceCtorEq, Int.reduceToNat, Nat.reduceEqDiff, Nat.reduceAdd, Nat.reduceSub, Nat.reduceMul, Int.reduceAdd, Int.reduceMul, Int.reduceSub, Int.reduceLT, Int.reduceLE, Int.reduceEq, Int.reduceNe, Nat.reduceLeDiff, Nat.reduceLT, Int.reduceNeg, Nat.reducePow, Nat.reduceMod, ByteArray.size, hY0, hsx, List.append_nil])
        · have dB1 : decide ((a : Int) < (s : Int)) = false := decide_eq_false (by omega)
          have hX0 : X1 = [] := List.eq_nil_of_length_eq_zero (by omega)
          have hsy := sortB_id sY1
          repeat (first | refine wA ?_ | refine wB ?_ | refine wC rfl ?_ | refine wD rfl ?_ | refine wE ?_ | refine wF (by omega) ?_ | ((first | refine wG ?_ | refine wH ?_ | refine wI ?_ | refine wJ ?_ | refine wK ?_ | refine wL ?_); simp (disch := omega) only [wP, wZ, undef, UInt8.reduceToNat, Nat.reduceOr, Nat.reduceAnd, Nat.reduceXor, Nat.reduceDiv, if_pos, if_neg, aStore, frz, AV.flat, ↓reduceIte, ne_eq, reduceCtorEq, Int.reduceToNat, Nat.reduceEqDiff, Nat.reduceAdd, Nat.reduceSub, Nat.reduceMul, Int.reduceAdd, Int.reduceMul, Int.reduceSub, Int.reduceLT, Int.reduceLE, Int.reduceEq, Int.reduceNe, Nat.reduceLeDiff, Nat.reduceLT, Int.reduceNeg, Nat.reducePow, Nat.reduceMod, ByteArray.size, dB1]))
          refine SWp.skip (le_mk rfl ?_ ?_ ?_)
          · show g1 ≤ g2
            omega
          iterate 2 (case _ => simp (disch := omega) only [wP, wZ, undef, UInt8.reduceToNat, Nat.reduceOr, Nat.reduceAnd, Nat.reduceXor, Nat.reduceDiv, if_pos, if_neg, aStore, frz, AV.flat, ↓reduceIte, ne_eq, reduceCtorEq, Int.reduceToNat, Nat.reduceEqDiff, Nat.reduceAdd, Nat.reduceSub, Nat.reduceMul, Int.reduceAdd, Int.reduceMul, Int.reduceSub, Int.reduceLT, Int.reduceLE, Int.reduceEq, Int.reduceNe, Nat.reduceLeDiff, Nat.reduceLT, Int.reduceNeg, Nat.reducePow, Nat.reduceMod, ByteArray.size, hX0, hsy, List.nil_append])
      have hfin : Pf ++ (sortB (X1 ++ Y1) ++ (sortB (X2 ++ Y2) ++ Tl)) = Pf ++ (sortB (X ++ Y) ++ Tl) := by rw [hcut]; simp
      by_cases ca : mid < e
      · have dC1 : decide ((mid : Int) < (e : Int)) = true := decide_eq_true (by omega)
        by_cases cb : e < b
        · have dC2 : decide ((e : Int) < (b : Int)) = true := decide_eq_true (by omega)
          have hrec := ih (X2.length + Y2.length) (by omega) (Pf ++ sortB (X1 ++ Y1)) X2 Y2 Tl N mid e b rfl (by rw [hN, hWl]; simp [length_sortB]; omega) hl (by simp [length_sortB]; omega) (by simp [length_sortB]; omega) (by omega) (by omega) (by omega) sX2 sY2
          simp only [List.append_assoc] at hrec
          rw [hfin] at hrec
          repeat (first | refine wA ?_ | refine wB ?_ | refine wC rfl ?_ | refine wD rfl ?_ | refine wE ?_ | refine wF (by omega) ?_ | ((first | refine wG ?_ | refine wH ?_ | refine wI ?_ | refine wJ ?_ | refine wK ?_ | refine wL ?_); simp (disch := omega) only [wP, wZ, undef, UInt8.reduceToNat, Nat.reduceOr, Nat.reduceAnd, Nat.reduceXor, Nat.reduceDiv, if_pos, if_neg, aStore, frz, AV.flat, ↓reduceIte, ne_eq, reduceCtorEq, Int.reduceToNat, Nat.reduceEqDiff, Nat.reduceAdd, Nat.reduceSub, Nat.reduceMul, Int.reduceAdd, Int.reduceMul, Int.reduceSub, Int.reduceLT, Int.reduceLE, Int.reduceEq, Int.reduceNe, Nat.reduceLeDiff, Nat.reduceLT, Int.reduceNeg, Nat.reducePow, Nat.reduceMod, ByteArray.size, dC1, dC2]))
          refine goC_h [(1000, 0)] 2000 hrec (by simp) (by simp) ?_ ?_ ?_
          iterate 2 (case _ => simp (disch := omega) only [wP, wZ, undef, UInt8.reduceToNat, Nat.reduceOr, Nat.reduceAnd, Nat.reduceXor, Nat.reduceDiv, if_pos, if_neg, aStore, frz, AV.flat, ↓reduceIte, ne_eq, reduceCtorEq, Int.reduceToNat, Nat.reduceEqDiff, Nat.reduceAdd, Nat.reduceSub, Nat.reduceMul, Int.reduceAdd, Int.reduceMul, Int.reduceSub, Int.reduceLT, Int.reduceLE, Int.reduceEq, Int.reduceNe, Nat.reduceLeDiff, Nat.reduceLT, Int.reduceNeg, Nat.reducePow, Nat.reduceMod, ByteArray.size, renL_bC, cmpF])
          repeat (first | refine wA ?_ | refine wB ?_ | refine wC rfl ?_ | refine wD rfl ?_ | refine wE ?_ | refine wF (by omega) ?_ | ((first | refine wG ?_ | refine wH ?_ | refine wI ?_ | refine wJ ?_ | refine wK ?_ | refine wL ?_); simp (disch := omega) only [wP, wZ, undef, UInt8.reduceToNat, Nat.reduceOr, Nat.reduceAnd, Nat.reduceXor, Nat.reduceDiv, if_pos, if_neg, aStore, frz, AV.flat, ↓reduceIte, ne_eq, reduceCtorEq, Int.reduceToNat, Nat.reduceEqDiff, Nat.reduceAdd, Nat.reduceSub, Nat.reduceMul, Int.reduceAdd, Int.reduceMul, Int.reduceSub, Int.reduceLT, Int.reduceLE, Int.reduceEq, Int.reduceNe, Nat.reduceLeDiff, Nat.reduceLT, Int.reduceNeg, Nat.reducePow, Nat.reduceMod, ByteArray.size, renL_bC, outOf_nil]))
          omega
        · have dC2 : decide ((e : Int) < (b : Int)) = false := decide_eq_false (by omega)
          have hY0 : Y2 = [] := List.eq_nil_of_length_eq_zero (by omega)
          have hsx := sortB_id sX2
          have hg : g2 ≤ KM n := by omega
          rw [hY0, List.append_nil, hsx] at hfin
          repeat (first | refine wA ?_ | refine wB ?_ | refine wC rfl ?_ | refine wD rfl ?_ | refine wE ?_ | refine wF (by omega) ?_ | ((first | refine wG ?_ | refine wH ?_ | refine wI ?_ | refine wJ ?_ | refine wK ?_ | refine wL ?_); simp (disch := omega) only [wP, wZ, undef, UInt8.reduceToNat, Nat.reduceOr, Nat.reduceAnd, Nat.reduceXor, Nat.reduceDiv, if_pos, if_neg, aStore, frz, AV.flat, ↓reduceIte, ne_eq, reduceCtorEq, Int.reduceToNat, Nat.reduceEqDiff, Nat.reduceAdd, Nat.reduceSub, Nat.reduceMul, Int.reduceAdd, Int.reduceMul, Int.reduceSub, Int.reduceLT, Int.reduceLE, Int.reduceEq, Int.reduceNe, Nat.reduceLeDiff, Nat.reduceLT, Int.reduceNeg, Nat.reducePow, Nat.reduceMod, ByteArray.size, dC1, dC2, outOf_nil, hY0, List.nil_append, hfin, hg]))
      · have dC1 : decide ((mid : Int) < (e : Int)) = false := decide_eq_false (by omega)
        have hX0 : X2 = [] := List.eq_nil_of_length_eq_zero (by omega)
        have hsy := sortB_id sY2
        have hg : g2 ≤ KM n := by omega
        rw [hX0, List.nil_append, hsy] at hfin
        repeat (first | refine wA ?_ | refine wB ?_ | refine wC rfl ?_ | refine wD rfl ?_ | refine wE ?_ | refine wF (by omega) ?_ | ((first | refine wG ?_ | refine wH ?_ | refine wI ?_ | refine wJ ?_ | refine wK ?_ | refine wL ?_); simp (disch := omega) only [wP, wZ, undef, UInt8.reduceToNat, Nat.reduceOr, Nat.reduceAnd, Nat.reduceXor, Nat.reduceDiv, if_pos, if_neg, aStore, frz, AV.flat, ↓reduceIte, ne_eq, reduceCtorEq, Int.reduceToNat, Nat.reduceEqDiff, Nat.reduceAdd, Nat.reduceSub, Nat.reduceMul, Int.reduceAdd, Int.reduceMul, Int.reduceSub, Int.reduceLT, Int.reduceLE, Int.reduceEq, Int.reduceNe, Nat.reduceLeDiff, Nat.reduceLT, Int.reduceNeg, Nat.reducePow, Nat.reduceMod, ByteArray.size, dC1, outOf_nil, hX0, List.nil_append, hfin, hg]))
end Go.Proofs.Ytbmppmdklappiaa.Aw
namespace Go.Proofs.Ytbmppmdklappiaa.Aw
open Go
set_option linter.unusedSimpArgs false
set_option linter.unusedVariables false
inductive BkT (w : Nat) : List Bt → Prop
  | last (S : List Bt) : S.length ≤ w → Srt S → BkT w S
  | cons (S T : List Bt) : S.length = w → Srt S → BkT w T → BkT w (S ++ T)
inductive BkP (w : Nat) : List Bt → Prop
  | nil : BkP w []
  | snoc (P S : List Bt) : BkP w P → S.length = w → Srt S → BkP w (P ++ S)
theorem bk_join {w : Nat} {P : List Bt} (h : BkP w P) : ∀ {T : List Bt}, BkT w T → BkT w (P ++ T) := by
  induction h with
  | nil => intro T hT; exact hT
  | snoc P S hP hS hs ih => intro T hT; rw [List.append_assoc]; exact ih (.cons S T hS hs hT)
theorem bk_one {w : Nat} {T : List Bt} (h : BkT w T) (hl : T.length ≤ w) : Srt T := by
  cases h with
  | last _ h1 h2 => exact h2
  | cons S T h1 h2 h3 =>
    have : T = [] := List.length_eq_zero_iff.1 (by rw [List.length_append] at hl; omega)
    subst this
    rw [List.append_nil]; exact h2
theorem bk_two {w : Nat} (hw : 1 ≤ w) {T : List Bt} (h : BkT w T) (hl : 2 * w ≤ T.length) : ∃ X Y T', T = X ++ (Y ++ T') ∧ X.length = w ∧ Y.length = w ∧ Srt X ∧ Srt Y ∧ BkT w T' := by
  cases h with
  | last _ h1 h2 => omega
  | cons S T h1 h2 h3 =>
    rw [List.length_append] at hl
    cases h3 with
    | last _ h4 h5 => exact ⟨S, T, [], by simp, h1, by omega, h2, h5, .last [] (by simp) List.Pairwise.nil⟩
    | cons S' T' h4 h5 h6 => exact ⟨S, S', T', rfl, h1, h4, h2, h5, h6⟩
theorem bk_more {w : Nat} {T : List Bt} (h : BkT w T) (hl : w < T.length) (hl2 : T.length < 2 * w) : ∃ X Y, T = X ++ Y ∧ X.length = w ∧ 1 ≤ Y.length ∧ Srt X ∧ Srt Y := by
  cases h with
  | last _ h1 h2 => omega
  | cons S T h1 h2 h3 =>
    rw [List.length_append] at hl hl2
    exact ⟨S, T, rfl, h1, by omega, h2, bk_one h3 (by omega)⟩
theorem sortB_part {P S T : List Bt} : sortB (P ++ (sortB S ++ T)) = sortB (P ++ (S ++ T)) := by
  refine sortB_eq (sortB_srt _) fun c => ?_
  rw [filter_sortB]
  simp only [List.filter_append, filter_sortB]
end Go.Proofs.Ytbmppmdklappiaa.Aw
namespace Go.Proofs.Ytbmppmdklappiaa.Aw
open Go
set_option linter.unusedSimpArgs false
set_option linter.unusedVariables false
def KS (N : Nat) : Nat := N + 5 + KM N * (2 * N + 20)
theorem KM_le {n N : Nat} (h : n ≤ N) : KM n ≤ 10 * N * n := by
  unfold KM
  exact Nat.mul_le_mul_right n (by omega)
set_option maxHeartbeats 1000000 in
set_option maxRecDepth 100000 in
theorem slices_stable_h [Tabs Try.prog] (l : List Bt) (N : Nat) (hN : N = l.length) (hl : N ≤ 10000) :
    HCon Try.prog n_slices_stableCmpFunchuff_batch [.own 1000 0 (some 2) 0 N, int N, cmpF] [.row false (bC l)] (.tup []) [(1000, 0, .row false (bC (sortB l)))] (KS N) := by
  refine HCon.of' mix Try.func47 rfl Try.ntmps47 e_slices_stableCmpFunchuff_batch r_slices_stableCmpFunchuff_batch (by simp) (by simp only [AV.gl.glL, AV.gl, int, cmpF, and_true]; omega) bC_gl ?_
  unfold s_slices_stableCmpFunchuff_batch
  repeat (first | refine wA ?_ | refine wB ?_ | refine wC rfl ?_ | refine wD rfl ?_ | refine wE ?_ | refine wF (by omega) ?_ | ((first | refine wG ?_ | refine wH ?_ | refine wI ?_ | refine wJ ?_ | refine wK ?_ | refine wL ?_); simp (disch := omega) only [wP, wZ, undef, UInt8.reduceToNat, Nat.reduceOr, Nat.reduceAnd, Nat.reduceXor, Nat.reduceDiv, if_pos, if_neg, aStore, frz, AV.flat, ↓reduceIte, ne_eq, reduceCtorEq, Int.reduceToNat, Nat.reduceEqDiff, Nat.reduceAdd, Nat.reduceSub, Nat.reduceMul, Int.reduceAdd, Int.reduceMul, Int.reduceSub, Int.reduceLT, Int.reduceLE, Int.reduceEq, Int.reduceNe, Nat.reduceLeDiff, Nat.reduceLT, Int.reduceNeg, Nat.reducePow, Nat.reduceMod, ByteArray.size]))
  refine SWp.loop (α := List Bt × List Bt) (fun x => mk 63 (1 + x.1.length) [(0, .own 1000 0 (some 2) 0 N), (1, int N), (2, cmpF), (6, int 20), (7, int (x.1.length : Nat)), (8, int (x.1.length + 20 : Nat))] [(1000, 0, .row false (bC (x.1 ++ x.2)))])
    (fun x => BkP 20 x.1 ∧ sortB (x.1 ++ x.2) = sortB l ∧ x.1.length + x.2.length = N) (fun x => x.2.length) ([], l) ⟨.nil, rfl, by simp [hN]⟩ (le_mk rfl ?_ ?_ ?_) ?_
  · exact Nat.le_refl _
  iterate 2 (case _ => simp (disch := omega) only [wP, wZ, undef, UInt8.reduceToNat, Nat.reduceOr, Nat.reduceAnd, Nat.reduceXor, Nat.reduceDiv, if_pos, if_neg, aStore, frz, AV.flat, ↓reduceIte, ne_eq, reduceCtorEq, Int.reduceToNat, Nat.reduceEqDiff, Nat.reduceAdd, Nat.reduceSub, Nat.reduceMul, Int.reduceAdd, Int.reduceMul, Int.reduceSub, Int.reduceLT, Int.reduceLE, Int.reduceEq, Int.reduceNe, Nat.reduceLeDiff, Nat.reduceLT, Int.reduceNeg, Nat.reducePow, Nat.reduceMod, ByteArray.size])
  rintro ⟨P, T⟩ ⟨hP, hS, hlen⟩ -
  simp only at hP hS hlen
  obtain ⟨a, ha⟩ : ∃ a, a = P.length := ⟨_, rfl⟩
  obtain ⟨b, hb⟩ : ∃ b, b = a + 20 := ⟨_, rfl⟩
  rw [← ha, ← hb]
  by_cases c : b ≤ N
  · have d : decide ((b : Int) ≤ (N : Int)) = true := decide_eq_true (by omega)
    obtain ⟨X, T', rfl, hX⟩ : ∃ X T', T = X ++ T' ∧ X.length = 20 := ⟨T.take 20, T.drop 20, (List.take_append_drop 20 T).symm, by rw [List.length_take]; omega⟩
    rw [List.length_append] at hlen
    have hc := slices_insertionSort_h P X T' N a b (by simp only [List.length_append]; omega) (by omega) ha (by omega)
    obtain ⟨b2, hb2⟩ : ∃ b2, b2 = b + 20 := ⟨_, rfl⟩
    have eb : (b : Int) + 20 = (b2 : Int) := by omega
    have hPl : (P ++ sortB X).length = b := by rw [List.length_append, length_sortB]; omega
    repeat (first | refine wA ?_ | refine wB ?_ | refine wC rfl ?_ | refine wD rfl ?_ | refine wE ?_ | refine wF (by omega) ?_ | ((first | refine wG ?_ | refine wH ?_ | refine wI ?_ | refine wJ ?_ | refine wK ?_ | refine wL ?_); simp (disch := omega) only [wP, wZ, undef, UInt8.reduceToNat, Nat.reduceOr, Nat.reduceAnd, Nat.reduceXor, Nat.reduceDiv, if_pos, if_neg, aStore, frz, AV.flat, ↓reduceIte, ne_eq, reduceCtorEq, Int.reduceToNat, Nat.reduceEqDiff, Nat.reduceAdd, Nat.reduceSub, Nat.reduceMul, Int.reduceAdd, Int.reduceMul, Int.reduceSub, Int.reduceLT, Int.reduceLE, Int.reduceEq, Int.reduceNe, Nat.reduceLeDiff, Nat.reduceLT, Int.reduceNeg, Nat.reducePow, Nat.reduceMod, ByteArray.size, d]))
    refine goC_h [(1000, 0)] 2000 hc (by simp) (by simp) ?_ ?_ ?_
    iterate 2 (case _ => simp (disch := omega) only [wP, wZ, undef, UInt8.reduceToNat, Nat.reduceOr, Nat.reduceAnd, Nat.reduceXor, Nat.reduceDiv, if_pos, if_neg, aStore, frz, AV.flat, ↓reduceIte, ne_eq, reduceCtorEq, Int.reduceToNat, Nat.reduceEqDiff, Nat.reduceAdd, Nat.reduceSub, Nat.reduceMul, Int.reduceAdd, Int.reduceMul, Int.reduceSub, Int.reduceLT, Int.reduceLE, Int.reduceEq, Int.reduceNe, Nat.reduceLeDiff, Nat.reduceLT, Int.reduceNeg, Nat.reducePow, Nat.reduceMod, ByteArray.size, renL_bC, cmpF])
    repeat (first | refine wA ?_ | refine wB ?_ | refine wC rfl ?_ | refine wD rfl ?_ | refine wE ?_ | refine wF (by omega) ?_ | ((first | refine wG ?_ | refine wH ?_ | refine wI ?_ | refine wJ ?_ | refine wK ?_ | refine wL ?_); simp (disch := omega) only [wP, wZ, undef, UInt8.reduceToNat, Nat.reduceOr, Nat.reduceAnd, Nat.reduceXor, Nat.reduceDiv, if_pos, if_neg, aStore, frz, AV.flat, ↓reduceIte, ne_eq, reduceCtorEq, Int.reduceToNat, Nat.reduceEqDiff, Nat.reduceAdd, Nat.reduceSub, Nat.reduceMul, Int.reduceAdd, Int.reduceMul, Int.reduceSub, Int.reduceLT, Int.reduceLE, Int.reduceEq, Int.reduceNe, Nat.reduceLeDiff, Nat.reduceLT, Int.reduceNeg, Nat.reducePow, Nat.reduceMod, ByteArray.size, renL_bC, eb]))
    refine At.of (P ++ sortB X, T') ⟨.snoc P _ hP (by rw [length_sortB]; exact hX) (sortB_srt _), ?_, ?_⟩ ?_ rfl rfl ?_ ?_ ?_
    · simp only
      rw [List.append_assoc, sortB_part, hS]
    · simp only
      rw [hPl]; omega
    · simp only [List.length_append]; omega
    · simp only
      rw [hPl]; omega
    · have e2 : (((P ++ sortB X).length + 20 : Nat) : Int) = (b2 : Int) := by rw [hPl]; omega
      simp only [e2, hPl]
      simp (disch := omega) only [wP, wZ, undef, UInt8.reduceToNat, Nat.reduceOr, Nat.reduceAnd, Nat.reduceXor, Nat.reduceDiv, if_pos, if_neg, aStore, frz, AV.flat, ↓reduceIte, ne_eq, reduceCtorEq, Int.reduceToNat, Nat.reduceEqDiff, Nat.reduceAdd, Nat.reduceSub, Nat.reduceMul, Int.reduceAdd, Int.reduceMul, Int.reduceSub, Int.reduceLT, Int.reduceLE, Int.reduceEq, Int.reduceNe, Nat.reduceLeDiff, Nat.reduceLT, Int.reduceNeg, Nat.reducePow, Nat.reduceMod, ByteArray.size]
      omega
    · simp (disch := omega) only [wP, wZ, undef, UInt8.reduceToNat, Nat.reduceOr, Nat.reduceAnd, Nat.reduceXor, Nat.reduceDiv, if_pos, if_neg, aStore, frz, AV.flat, ↓reduceIte, ne_eq, reduceCtorEq, Int.reduceToNat, Nat.reduceEqDiff, Nat.reduceAdd, Nat.reduceSub, Nat.reduceMul, Int.reduceAdd, Int.reduceMul, Int.reduceSub, Int.reduceLT, Int.reduceLE, Int.reduceEq, Int.reduceNe, Nat.reduceLeDiff, Nat.reduceLT, Int.reduceNeg, Nat.reducePow, Nat.reduceMod, ByteArray.size]
  · have d : decide ((b : Int) ≤ (N : Int)) = false := decide_eq_false (by omega)
    have hc := slices_insertionSort_h P T [] N a N (by simp only [List.length_append, List.length_nil]; omega) (by omega) ha (by omega)
    rw [List.append_nil, List.append_nil] at hc
    repeat (first | refine wA ?_ | refine wB ?_ | refine wC rfl ?_ | refine wD rfl ?_ | refine wE ?_ | refine wF (by omega) ?_ | ((first | refine wG ?_ | refine wH ?_ | refine wI ?_ | refine wJ ?_ | refine wK ?_ | refine wL ?_); simp (disch := omega) only [wP, wZ, undef, UInt8.reduceToNat, Nat.reduceOr, Nat.reduceAnd, Nat.reduceXor, Nat.reduceDiv, if_pos, if_neg, aStore, frz, AV.flat, ↓reduceIte, ne_eq, reduceCtorEq, Int.reduceToNat, Nat.reduceEqDiff, Nat.reduceAdd, Nat.reduceSub, Nat.reduceMul, Int.reduceAdd, Int.reduceMul, Int.reduceSub, Int.reduceLT, Int.reduceLE, Int.reduceEq, Int.reduceNe, Nat.reduceLeDiff, Nat.reduceLT, Int.reduceNeg, Nat.reducePow, Nat.reduceMod, ByteArray.size, d]))
    refine goC_h [(1000, 0)] 2000 hc (by simp) (by simp) ?_ ?_ ?_
    iterate 2 (case _ => simp (disch := omega) only [wP, wZ, undef, UInt8.reduceToNat, Nat.reduceOr, Nat.reduceAnd, Nat.reduceXor, Nat.reduceDiv, if_pos, if_neg, aStore, frz, AV.flat, ↓reduceIte, ne_eq, reduceCtorEq, Int.reduceToNat, Nat.reduceEqDiff, Nat.reduceAdd, Nat.reduceSub, Nat.reduceMul, Int.reduceAdd, Int.reduceMul, Int.reduceSub, Int.reduceLT, Int.reduceLE, Int.reduceEq, Int.reduceNe, Nat.reduceLeDiff, Nat.reduceLT, Int.reduceNeg, Nat.reducePow, Nat.reduceMod, ByteArray.size, renL_bC, cmpF])
    repeat (first | refine wA ?_ | refine wB ?_ | refine wC rfl ?_ | refine wD rfl ?_ | refine wE ?_ | refine wF (by omega) ?_ | ((first | refine wG ?_ | refine wH ?_ | refine wI ?_ | refine wJ ?_ | refine wK ?_ | refine wL ?_); simp (disch := omega) only [wP, wZ, undef, UInt8.reduceToNat, Nat.reduceOr, Nat.reduceAnd, Nat.reduceXor, Nat.reduceDiv, if_pos, if_neg, aStore, frz, AV.flat, ↓reduceIte, ne_eq, reduceCtorEq, Int.reduceToNat, Nat.reduceEqDiff, Nat.reduceAdd, Nat.reduceSub, Nat.reduceMul, Int.reduceAdd, Int.reduceMul, Int.reduceSub, Int.reduceLT, Int.reduceLE, Int.reduceEq, Int.reduceNe, Nat.reduceLeDiff, Nat.reduceLT, Int.reduceNeg, Nat.reducePow, Nat.reduceMod, ByteArray.size, renL_bC]))
    refine SWp.loop (α := List Bt × Nat) (fun x => mk 63 (N + 3 + KM N * x.2) [(0, .own 1000 0 (some 2) 0 N), (1, int N), (2, cmpF), (6, int (x.2 : Nat))] [(1000, 0, .row false (bC x.1))])
      (fun x => BkT x.2 x.1 ∧ sortB x.1 = sortB l ∧ x.1.length = N ∧ 1 ≤ x.2 ∧ x.2 ≤ 2 * N + 20) (fun x => N - x.2) (P ++ sortB T, 20) ⟨bk_join hP (.last _ (by rw [length_sortB]; omega) (sortB_srt _)), ?_, ?_, by simp, by simp⟩ (le_mk rfl ?_ ?_ ?_) ?_
    · have := sortB_part (P := P) (S := T) (T := [])
      rw [List.append_nil, List.append_nil] at this
      simp only
      rw [this, hS]
    · simp only [List.length_append, length_sortB]; omega
    · show 1 + a + 1 ≤ N + 3 + KM N * 20
      omega
    iterate 2 (case _ => simp (disch := omega) only [wP, wZ, undef, UInt8.reduceToNat, Nat.reduceOr, Nat.reduceAnd, Nat.reduceXor, Nat.reduceDiv, if_pos, if_neg, aStore, frz, AV.flat, ↓reduceIte, ne_eq, reduceCtorEq, Int.reduceToNat, Nat.reduceEqDiff, Nat.reduceAdd, Nat.reduceSub, Nat.reduceMul, Int.reduceAdd, Int.reduceMul, Int.reduceSub, Int.reduceLT, Int.reduceLE, Int.reduceEq, Int.reduceNe, Nat.reduceLeDiff, Nat.reduceLT, Int.reduceNeg, Nat.reducePow, Nat.reduceMod, ByteArray.size, renL_bC])
    clear hc hS hP hlen d c
    rintro ⟨R, w⟩ ⟨hB, hSo, hRl, hw1, hw2⟩ -
    simp only at hB hSo hRl hw1 hw2
    by_cases cw : w < N
    · have d : decide ((w : Int) < (N : Int)) = true := decide_eq_true (by omega)
      obtain ⟨w2, hw2e⟩ : ∃ w2, w2 = 2 * w := ⟨_, rfl⟩
      have ew : 2 * (w : Int) = (w2 : Int) := by omega
      have ew' : (w : Int) * 2 = (w2 : Int) := by omega
      have fN : KM N * w2 = KM N * w + KM N * w := by rw [hw2e, ← Nat.mul_assoc, Nat.mul_comm (KM N) 2, Nat.mul_assoc]; omega
      have fw : KM N ≤ KM N * w := Nat.le_mul_of_pos_right _ (by omega)
      repeat (first | refine wA ?_ | refine wB ?_ | refine wC rfl ?_ | refine wD rfl ?_ | refine wE ?_ | refine wF (by omega) ?_ | ((first | refine wG ?_ | refine wH ?_ | refine wI ?_ | refine wJ ?_ | refine wK ?_ | refine wL ?_); simp (disch := omega) only [wP, wZ, undef, UInt8.reduceToNat, Nat.reduceOr, Nat.reduceAnd, Nat.reduceXor, Nat.reduceDiv, if_pos, if_neg, aStore, frz, AV.flat, ↓reduceIte, ne_eq, reduceCtorEq, Int.reduceToNat, Nat.reduceEqDiff, Nat.reduceAdd, Nat.reduceSub, Nat.reduceMul, Int.reduceAdd, Int.reduceMul, Int.reduceSub, Int.reduceLT, Int.reduceLE, Int.reduceEq, Int.reduceNe, Nat.reduceLeDiff, Nat.reduceLT, Int.reduceNeg, Nat.reducePow, Nat.reduceMod, ByteArray.size, d, ew]))
      refine SWp.loop (α := List Bt × List Bt) (fun x => mk 63 (N + 3 + KM N * w + 10 * N * x.1.length) [(0, .own 1000 0 (some 2) 0 N), (1, int N), (2, cmpF), (6, int w), (7, int (x.1.length : Nat)), (8, int (x.1.length + w2 : Nat))] [(1000, 0, .row false (bC (x.1 ++ x.2)))])
        (fun x => BkP w2 x.1 ∧ BkT w x.2 ∧ sortB (x.1 ++ x.2) = sortB l ∧ x.1.length + x.2.length = N) (fun x => x.2.length) ([], R) ⟨.nil, hB, hSo, by simp [hRl]⟩ (le_mk rfl ?_ ?_ ?_) ?_
      · exact Nat.le_refl _
      iterate 2 (case _ => simp (disch := omega) only [wP, wZ, undef, UInt8.reduceToNat, Nat.reduceOr, Nat.reduceAnd, Nat.reduceXor, Nat.reduceDiv, if_pos, if_neg, aStore, frz, AV.flat, ↓reduceIte, ne_eq, reduceCtorEq, Int.reduceToNat, Nat.reduceEqDiff, Nat.reduceAdd, Nat.reduceSub, Nat.reduceMul, Int.reduceAdd, Int.reduceMul, Int.reduceSub, Int.reduceLT, Int.reduceLE, Int.reduceEq, Int.reduceNe, Nat.reduceLeDiff, Nat.reduceLT, Int.reduceNeg, Nat.reducePow, Nat.reduceMod, ByteArray.size])
      rintro ⟨P2, T2⟩ ⟨hP2, hT2, hS2, hl2⟩ -
      simp only at hP2 hT2 hS2 hl2
      obtain ⟨a2, ha2⟩ : ∃ a2, a2 = P2.length := ⟨_, rfl⟩
      obtain ⟨b2, hb2⟩ : ∃ b2, b2 = a2 + w2 := ⟨_, rfl⟩
      obtain ⟨mid, hmid⟩ : ∃ mid, mid = a2 + w := ⟨_, rfl⟩
      have em : (a2 : Int) + (w : Int) = (mid : Int) := by omega
      rw [← ha2, ← hb2]
      by_cases cb : b2 ≤ N
      · have d2 : decide ((b2 : Int) ≤ (N : Int)) = true := decide_eq_true (by omega)
        obtain ⟨X, Y, T', rfl, hX, hY, hXs, hYs, hT'⟩ := bk_two hw1 hT2 (by omega)
        simp only [List.length_append] at hl2
        have hc := slices_symMerge_h w2 P2 X Y T' N a2 mid b2 (by omega) (by simp only [List.length_append]; omega) (by omega) ha2 (by omega) (by omega) (by omega) (by omega) hXs hYs
        obtain ⟨b3, hb3⟩ : ∃ b3, b3 = b2 + w2 := ⟨_, rfl⟩
        have eb : (b2 : Int) + (w2 : Int) = (b3 : Int) := by omega
        have hPl : (P2 ++ sortB (X ++ Y)).length = b2 := by simp only [List.length_append, length_sortB]; omega
        have f1 : 10 * N * b2 = 10 * N * a2 + 10 * N * w2 := by rw [hb2, Nat.mul_add]
        have f2 : KM w2 ≤ 10 * N * w2 := KM_le (by omega)
        repeat (first | refine wA ?_ | refine wB ?_ | refine wC rfl ?_ | refine wD rfl ?_ | refine wE ?_ | refine wF (by omega) ?_ | ((first | refine wG ?_ | refine wH ?_ | refine wI ?_ | refine wJ ?_ | refine wK ?_ | refine wL ?_); simp (disch := omega) only [wP, wZ, undef, UInt8.reduceToNat, Nat.reduceOr, Nat.reduceAnd, Nat.reduceXor, Nat.reduceDiv, if_pos, if_neg, aStore, frz, AV.flat, ↓reduceIte, ne_eq, reduceCtorEq, Int.reduceToNat, Nat.reduceEqDiff, Nat.reduceAdd, Nat.reduceSub, Nat.reduceMul, Int.reduceAdd, Int.reduceMul, Int.reduceSub, Int.reduceLT, Int.reduceLE, Int.reduceEq, Int.reduceNe, Nat.reduceLeDiff, Nat.reduceLT, Int.reduceNeg, Nat.reducePow, Nat.reduceMod, ByteArray.size, d2, em]))
        refine goC_h [(1000, 0)] 2000 hc (by simp) (by simp) ?_ ?_ ?_
        iterate 2 (case _ => simp (disch := omega) only [wP, wZ, undef, UInt8.reduceToNat, Nat.reduceOr, Nat.reduceAnd, Nat.reduceXor, Nat.reduceDiv, if_pos, if_neg, aStore, frz, AV.flat, ↓reduceIte, ne_eq, reduceCtorEq, Int.reduceToNat, Nat.reduceEqDiff, Nat.reduceAdd, Nat.reduceSub, Nat.reduceMul, Int.reduceAdd, Int.reduceMul, Int.reduceSub, Int.reduceLT, Int.reduceLE, Int.reduceEq, Int.reduceNe, Nat.reduceLeDiff, Nat.reduceLT, Int.reduceNeg, Nat.reducePow, Nat.reduceMod, ByteArray.size, renL_bC, cmpF])
        repeat (first | refine wA ?_ | refine wB ?_ | refine wC rfl ?_ | refine wD rfl ?_ | refine wE ?_ | refine wF (by omega) ?_ | ((first | refine wG ?_ | refine wH ?_ | refine wI ?_ | refine wJ ?_ | refine wK ?_ | refine wL ?_); simp (disch := omega) only [wP, wZ, undef, UInt8.reduceToNat, Nat.reduceOr, Nat.reduceAnd, Nat.reduceXor, Nat.reduceDiv, if_pos, if_neg, aStore, frz, AV.flat, ↓reduceIte, ne_eq, reduceCtorEq, Int.reduceToNat, Nat.reduceEqDiff, Nat.reduceAdd, Nat.reduceSub, Nat.reduceMul, Int.reduceAdd, Int.reduceMul, Int.reduceSub, Int.reduceLT, Int.reduceLE, Int.reduceEq, Int.reduceNe, Nat.reduceLeDiff, Nat.reduceLT, Int.reduceNeg, Nat.reducePow, Nat.reduceMod, ByteArray.size, renL_bC, ew, eb]))
        refine At.of (P2 ++ sortB (X ++ Y), T') ⟨.snoc P2 _ hP2 (by rw [length_sortB, List.length_append]; omega) (sortB_srt _), hT', ?_, ?_⟩ ?_ rfl rfl ?_ ?_ ?_
        · simp only
          rw [List.append_assoc, sortB_part, ← hS2, List.append_assoc]
        · simp only
          rw [hPl]; omega
        · simp only [List.length_append]; omega
        · simp only
          rw [hPl]; omega
        · have e2 : (((P2 ++ sortB (X ++ Y)).length + w2 : Nat) : Int) = (b3 : Int) := by rw [hPl]; omega
          simp only [e2, hPl]
          simp (disch := omega) only [wP, wZ, undef, UInt8.reduceToNat, Nat.reduceOr, Nat.reduceAnd, Nat.reduceXor, Nat.reduceDiv, if_pos, if_neg, aStore, frz, AV.flat, ↓reduceIte, ne_eq, reduceCtorEq, Int.reduceToNat, Nat.reduceEqDiff, Nat.reduceAdd, Nat.reduceSub, Nat.reduceMul, Int.reduceAdd, Int.reduceMul, Int.reduceSub, Int.reduceLT, Int.reduceLE, Int.reduceEq, Int.reduceNe, Nat.reduceLeDiff, Nat.reduceLT, Int.reduceNeg, Nat.reducePow, Nat.reduceMod, ByteArray.size]
          omega
        · simp (disch := omega) only [wP, wZ, undef, UInt8.reduceToNat, Nat.reduceOr, Nat.reduceAnd, Nat.reduceXor, Nat.reduceDiv, if_pos, if_neg, aStore, frz, AV.flat, ↓reduceIte, ne_eq, reduceCtorEq, Int.reduceToNat, Nat.reduceEqDiff, Nat.reduceAdd, Nat.reduceSub, Nat.reduceMul, Int.reduceAdd, Int.reduceMul, Int.reduceSub, Int.reduceLT, Int.reduceLE, Int.reduceEq, Int.reduceNe, Nat.reduceLeDiff, Nat.reduceLT, Int.reduceNeg, Nat.reducePow, Nat.reduceMod, ByteArray.size]
      · have d2 : decide ((b2 : Int) ≤ (N : Int)) = false := decide_eq_false (by omega)
        have hKN : KM N = 10 * N * a2 + 10 * N * (N - a2) := by
          rw [← Nat.mul_add, show a2 + (N - a2) = N by omega]; rfl
        by_cases cm : mid < N
        · have d3 : decide ((mid : Int) < (N : Int)) = true := decide_eq_true (by omega)
          obtain ⟨X, Y, rfl, hX, hY, hXs, hYs⟩ := bk_more hT2 (by omega) (by omega)
          simp only [List.length_append] at hl2
          have hc := slices_symMerge_h (N - a2) P2 X Y [] N a2 mid N (by omega) (by simp only [List.length_append, List.length_nil]; omega) (by omega) ha2 (by omega) (by omega) (by omega) hY hXs hYs
          rw [List.append_nil, List.append_nil] at hc
          have f2 : KM (N - a2) ≤ 10 * N * (N - a2) := KM_le (by omega)
          repeat (first | refine wA ?_ | refine wB ?_ | refine wC rfl ?_ | refine wD rfl ?_ | refine wE ?_ | refine wF (by omega) ?_ | ((first | refine wG ?_ | refine wH ?_ | refine wI ?_ | refine wJ ?_ | refine wK ?_ | refine wL ?_); simp (disch := omega) only [wP, wZ, undef, UInt8.reduceToNat, Nat.reduceOr, Nat.reduceAnd, Nat.reduceXor, Nat.reduceDiv, if_pos, if_neg, aStore, frz, AV.flat, ↓reduceIte, ne_eq, reduceCtorEq, Int.reduceToNat, Nat.reduceEqDiff, Nat.reduceAdd, Nat.reduceSub, Nat.reduceMul, Int.reduceAdd, Int.reduceMul, Int.reduceSub, Int.reduceLT, Int.reduceLE, Int.reduceEq, Int.reduceNe, Nat.reduceLeDiff, Nat.reduceLT, Int.reduceNeg, Nat.reducePow, Nat.reduceMod, ByteArray.size, d2, em, d3]))
          refine goC_h [(1000, 0)] 2000 hc (by simp) (by simp) ?_ ?_ ?_
          iterate 2 (case _ => simp (disch := omega) only [wP, wZ, undef, UInt8.reduceToNat, Nat.reduceOr, Nat.reduceAnd, Nat.reduceXor, Nat.reduceDiv, if_pos, if_neg, aStore, frz, AV.flat, ↓reduceIte, ne_eq, reduceCtorEq, Int.reduceToNat, Nat.reduceEqDiff, Nat.reduceAdd, Nat.reduceSub, Nat.reduceMul, Int.reduceAdd, Int.reduceMul, Int.reduceSub, Int.reduceLT, Int.reduceLE, Int.reduceEq, Int.reduceNe, Nat.reduceLeDiff, Nat.reduceLT, Int.reduceNeg, Nat.reducePow, Nat.reduceMod, ByteArray.size, renL_bC, cmpF])
          repeat (first | refine wA ?_ | refine wB ?_ | refine wC rfl ?_ | refine wD rfl ?_ | refine wE ?_ | refine wF (by omega) ?_ | ((first | refine wG ?_ | refine wH ?_ | refine wI ?_ | refine wJ ?_ | refine wK ?_ | refine wL ?_); simp (disch := omega) only [wP, wZ, undef, UInt8.reduceToNat, Nat.reduceOr, Nat.reduceAnd, Nat.reduceXor, Nat.reduceDiv, if_pos, if_neg, aStore, frz, AV.flat, ↓reduceIte, ne_eq, reduceCtorEq, Int.reduceToNat, Nat.reduceEqDiff, Nat.reduceAdd, Nat.reduceSub, Nat.reduceMul, Int.reduceAdd, Int.reduceMul, Int.reduceSub, Int.reduceLT, Int.reduceLE, Int.reduceEq, Int.reduceNe, Nat.reduceLeDiff, Nat.reduceLT, Int.reduceNeg, Nat.reducePow, Nat.reduceMod, ByteArray.size, renL_bC, ew']))
          refine At.of (P2 ++ sortB (X ++ Y), w2) ⟨bk_join hP2 (.last _ (by rw [length_sortB, List.length_append]; omega) (sortB_srt _)), ?_, ?_, by simp only; omega, by simp only; omega⟩ (by simp only; omega) rfl rfl ?_ ?_ ?_
          · have := sortB_part (P := P2) (S := X ++ Y) (T := [])
            rw [List.append_nil, List.append_nil] at this
            simp only
            rw [this, hS2]
          · simp only [List.length_append, length_sortB]; omega
          · simp only; omega
          iterate 2 (case _ => simp (disch := omega) only [wP, wZ, undef, UInt8.reduceToNat, Nat.reduceOr, Nat.reduceAnd, Nat.reduceXor, Nat.reduceDiv, if_pos, if_neg, aStore, frz, AV.flat, ↓reduceIte, ne_eq, reduceCtorEq, Int.reduceToNat, Nat.reduceEqDiff, Nat.reduceAdd, Nat.reduceSub, Nat.reduceMul, Int.reduceAdd, Int.reduceMul, Int.reduceSub, Int.reduceLT, Int.reduceLE, Int.reduceEq, Int.reduceNe, Nat.reduceLeDiff, Nat.reduceLT, Int.reduceNeg, Nat.reducePow, Nat.reduceMod, ByteArray.size])
        · have d3 : decide ((mid : Int) < (N : Int)) = false := decide_eq_false (by omega)
          repeat (first | refine wA ?_ | refine wB ?_ | refine wC rfl ?_ | refine wD rfl ?_ | refine wE ?_ | refine wF (by omega) ?_ | ((first | refine wG ?_ | refine wH ?_ | refine wI ?_ | refine wJ ?_ | refine wK ?_ | refine wL ?_); simp (disch := omega) only [wP, wZ, undef, UInt8.reduceToNat, Nat.reduceOr, Nat.reduceAnd, Nat.reduceXor, Nat.reduceDiv, if_pos, if_neg, aStore, frz, AV.flat, ↓reduceIte, ne_eq, reduceCtorEq, Int.reduceToNat, Nat.reduceEqDiff, Nat.reduceAdd, Nat.reduceSub, Nat.reduceMul, Int.reduceAdd, Int.reduceMul, Int.reduceSub, Int.reduceLT, Int.reduceLE, Int.reduceEq, Int.reduceNe, Nat.reduceLeDiff, Nat.reduceLT, Int.reduceNeg, Nat.reducePow, Nat.reduceMod, ByteArray.size, d2, em, d3, ew']))
          refine At.of (P2 ++ T2, w2) ⟨bk_join hP2 (.last _ (by omega) (bk_one hT2 (by omega))), hS2, ?_, by simp only; omega, by simp only; omega⟩ (by simp only; omega) rfl rfl ?_ ?_ ?_
          · simp only [List.length_append]; omega
          · simp only; omega
          iterate 2 (case _ => simp (disch := omega) only [wP, wZ, undef, UInt8.reduceToNat, Nat.reduceOr, Nat.reduceAnd, Nat.reduceXor, Nat.reduceDiv, if_pos, if_neg, aStore, frz, AV.flat, ↓reduceIte, ne_eq, reduceCtorEq, Int.reduceToNat, Nat.reduceEqDiff, Nat.reduceAdd, Nat.reduceSub, Nat.reduceMul, Int.reduceAdd, Int.reduceMul, Int.reduceSub, Int.reduceLT, Int.reduceLE, Int.reduceEq, Int.reduceNe, Nat.reduceLeDiff, Nat.reduceLT, Int.reduceNeg, Nat.reducePow, Nat.reduceMod, ByteArray.size])
    · have d : decide ((w : Int) < (N : Int)) = false := decide_eq_false (by omega)
      have hR : sortB l = R := by rw [← hSo]; exact sortB_id (bk_one hB (by omega))
      have f : KM N * w ≤ KM N * (2 * N + 20) := Nat.mul_le_mul_left _ hw2
      rw [hR]
      repeat (first | refine wA ?_ | refine wB ?_ | refine wC rfl ?_ | refine wD rfl ?_ | refine wE ?_ | refine wF (by omega) ?_ | ((first | refine wG ?_ | refine wH ?_ | refine wI ?_ | refine wJ ?_ | refine wK ?_ | refine wL ?_); simp (disch := omega) only [wP, wZ, undef, UInt8.reduceToNat, Nat.reduceOr, Nat.reduceAnd, Nat.reduceXor, Nat.reduceDiv, if_pos, if_neg, aStore, frz, AV.flat, ↓reduceIte, ne_eq, reduceCtorEq, Int.reduceToNat, Nat.reduceEqDiff, Nat.reduceAdd, Nat.reduceSub, Nat.reduceMul, Int.reduceAdd, Int.reduceMul, Int.reduceSub, Int.reduceLT, Int.reduceLE, Int.reduceEq, Int.reduceNe, Nat.reduceLeDiff, Nat.reduceLT, Int.reduceNeg, Nat.reducePow, Nat.reduceMod, ByteArray.size, d, outOf_nil]))
      all_goals (simp only [KS]; omega)
end Go.Proofs.Ytbmppmdklappiaa.Aw
namespace Go.Proofs.Ytbmppmdklappiaa.Aw
open Go
set_option linter.unusedSimpArgs false
set_option linter.unusedVariables false
theorem bC_gl' {nl : Bool} {l : List Bt} : ∀ n cells, AO.row n cells ∈ [AO.row nl (bC l)] → AV.gl.glL 1 cells := by
  intro n cells h
  simp only [List.mem_singleton, AO.row.injEq] at h
  obtain ⟨-, rfl⟩ := h
  exact glL_of_free _ _ free_bC
set_option maxRecDepth 100000 in
theorem slices_SortStable_h [Tabs Try.prog] (l : List Bt) (N : Nat) (hN : N = l.length) (hl : N ≤ 10000) :
    HCon Try.prog n_slices_SortStableFunchuff_batchhuff_batch [.own 1000 0 (some 2) 0 N, cmpF] [.row false (bC l)] (.tup []) [(1000, 0, .row false (bC (sortB l)))] (KS N + 1) := by
  refine HCon.of' mix Try.func43 rfl Try.ntmps43 e_slices_SortStableFunchuff_batchhuff_batch r_slices_SortStableFunchuff_batchhuff_batch (by simp) (by simp only [AV.gl.glL, AV.gl, cmpF, and_true]; omega) bC_gl ?_
  unfold s_slices_SortStableFunchuff_batchhuff_batch
  have hc := slices_stable_h l N hN hl
  repeat (first | refine wA ?_ | refine wB ?_ | refine wC rfl ?_ | refine wD rfl ?_ | refine wE ?_ | refine wF (by omega) ?_ | ((first | refine wG ?_ | refine wH ?_ | refine wI ?_ | refine wJ ?_ | refine wK ?_ | refine wL ?_); simp (disch := omega) only [wP, wZ, undef, UInt8.reduceToNat, Nat.reduceOr, Nat.reduceAnd, Nat.reduceXor, Nat.reduceDiv, if_pos, if_neg, aStore, frz, AV.flat, ↓reduceIte, ne_eq, reduceCtorEq, Int.reduceToNat, Nat.reduceEqDiff, Nat.reduceAdd, Nat.reduceSub, Nat.reduceMul, Int.reduceAdd, Int.reduceMul, Int.reduceSub, Int.reduceLT, Int.reduceLE, Int.reduceEq, Int.reduceNe, Nat.reduceLeDiff, Nat.reduceLT, Int.reduceNeg, Nat.reducePow, Nat.reduceMod, ByteArray.size]))
  refine goC_h [(1000, 0)] 2000 hc (by simp) (by simp) ?_ ?_ ?_
  iterate 2 (case _ => simp (disch := omega) only [wP, wZ, undef, UInt8.reduceToNat, Nat.reduceOr, Nat.reduceAnd, Nat.reduceXor, Nat.reduceDiv, if_pos, if_neg, aStore, frz, AV.flat, ↓reduceIte, ne_eq, reduceCtorEq, Int.reduceToNat, Nat.reduceEqDiff, Nat.reduceAdd, Nat.reduceSub, Nat.reduceMul, Int.reduceAdd, Int.reduceMul, Int.reduceSub, Int.reduceLT, Int.reduceLE, Int.reduceEq, Int.reduceNe, Nat.reduceLeDiff, Nat.reduceLT, Int.reduceNeg, Nat.reducePow, Nat.reduceMod, ByteArray.size, renL_bC, cmpF])
  repeat (first | refine wA ?_ | refine wB ?_ | refine wC rfl ?_ | refine wD rfl ?_ | refine wE ?_ | refine wF (by omega) ?_ | ((first | refine wG ?_ | refine wH ?_ | refine wI ?_ | refine wJ ?_ | refine wK ?_ | refine wL ?_); simp (disch := omega) only [wP, wZ, undef, UInt8.reduceToNat, Nat.reduceOr, Nat.reduceAnd, Nat.reduceXor, Nat.reduceDiv, if_pos, if_neg, aStore, frz, AV.flat, ↓reduceIte, ne_eq, reduceCtorEq, Int.reduceToNat, Nat.reduceEqDiff, Nat.reduceAdd, Nat.reduceSub, Nat.reduceMul, Int.reduceAdd, Int.reduceMul, Int.reduceSub, Int.reduceLT, Int.reduceLE, Int.reduceEq, Int.reduceNe, Nat.reduceLeDiff, Nat.reduceLT, Int.reduceNeg, Nat.reducePow, Nat.reduceMod, ByteArray.size, renL_bC, outOf_nil]))
  all_goals omega
theorem lvB0 {S : List Bt} : lvB S 0 = S := rfl
theorem renL_bA {ρ : Nat → Nat → Nat × Nat} {l : List Bt} : ren.renL ρ (l.map bA) = l.map bA := renL_free ρ _ free_bA
def bestL (l : List Bt) (most : Nat) : List Bt := if l.length < 2 then l else (lvB (sortB l) (most - 1)).take (2 * l.length - 2)
def KC : Nat := 100 + 20 * (KS 640 + 20)
theorem KC_pos : 1 ≤ KC := Nat.le_trans (by omega : 1 ≤ 100) (Nat.le_add_right _ _)
theorem KS_le {n : Nat} (h : n ≤ 640) : KS n ≤ KS 640 := by
  unfold KS KM
  have h1 : 10 * n * n ≤ 10 * 640 * 640 := Nat.mul_le_mul (by omega) h
  have h2 : 10 * n * n * (2 * n + 20) ≤ 10 * 640 * 640 * (2 * 640 + 20) := Nat.mul_le_mul h1 (by omega)
  omega
set_option maxHeartbeats 1000000 in
set_option maxRecDepth 100000 in
theorem huff_cheapest_h [Tabs Try.prog] (l : List Bt) (n most : Nat) (hn : n = l.length) (hl : n ≤ 320) (h1 : 1 ≤ most) (h15 : most ≤ 15) (hbig : n ≤ 2 ^ most) (hs : ∀ p ∈ l, p.1 ≤ 4294967296 ∧ p.2.length = 1) :
    HCon Try.prog n_huff_cheapest [.own 1000 0 (some 2) 0 n, int (most : Int)] [.row (nl0 n) (bC l)] (.sl (nl0 n) (some 2) ((bestL l most).map bA)) [] KC := by
  refine HCon.of' mix Try.func42 rfl Try.ntmps42 e_huff_cheapest r_huff_cheapest (by simp) (by simp only [AV.gl.glL, AV.gl, int, and_true]; omega) bC_gl' ?_
  unfold s_huff_cheapest
  have hbl : (bC l).length = n * 2 := by rw [length_bC, hn]
  have hbl2 : (bC (sortB l)).length = n * 2 := by rw [length_bC, length_sortB, hn]
  have hch : ∀ k : List Bt, chunks (some 2) k.length (bC k) = k.map bA := fun k => chunks_bC
  by_cases c : n < 2
  · have d : decide ((n : Int) < 2) = true := decide_eq_true (by omega)
    have dl : decide ((l.length : Int) < 2) = true := decide_eq_true (by omega)
    have hb : bestL l most = l := by rw [bestL, if_pos (by omega)]
    rw [hb]
    have hcn := hch l
    rw [← hn] at hcn
    iterate 2 (first | refine wA ?_ | refine wB ?_ | refine wC rfl ?_ | refine wD rfl ?_ | refine wE ?_ | refine wF (by omega) ?_ | ((first | refine wG ?_ | refine wH ?_ | refine wI ?_ | refine wJ ?_ | refine wK ?_ | refine wL ?_); simp (disch := omega) only [wP, wZ, undef, UInt8.reduceToNat, Nat.reduceOr, Nat.reduceAnd, Nat.reduceXor, Nat.reduceDiv, if_pos, if_neg, aStore, frz, AV.flat, ↓reduceIte, ne_eq, reduceCtorEq, Int.reduceToNat, Nat.reduceEqDiff, Nat.reduceAdd, Nat.reduceSub, Nat.reduceMul, Int.reduceAdd, Int.reduceMul, Int.reduceSub, Int.reduceLT, Int.reduceLE, Int.reduceEq, Int.reduceNe, Nat.reduceLeDiff, Nat.reduceLT, Int.reduceNeg, Nat.reducePow, Nat.reduceMod, ByteArray.size]))
    refine SWp.frzo 1000 0 (nl := nl0 n) (cells := bC l) (by simp (disch := omega) only [wP, wZ, undef, UInt8.reduceToNat, Nat.reduceOr, Nat.reduceAnd, Nat.reduceXor, Nat.reduceDiv, if_pos, if_neg, aStore, frz, AV.flat, ↓reduceIte, ne_eq, reduceCtorEq, Int.reduceToNat, Nat.reduceEqDiff, Nat.reduceAdd, Nat.reduceSub, Nat.reduceMul, Int.reduceAdd, Int.reduceMul, Int.reduceSub, Int.reduceLT, Int.reduceLE, Int.reduceEq, Int.reduceNe, Nat.reduceLeDiff, Nat.reduceLT, Int.reduceNeg, Nat.reducePow, Nat.reduceMod, ByteArray.size]) free_bC ?_
    refine SWp.le (le_mk (N := 31) (gc := 1) (l := [(0, .sl (nl0 n) (some 2) (l.map bA))]) (h := []) rfl ?_ ?_ ?_) ?_
    iterate 3 (case _ => simp (disch := omega) only [wP, wZ, undef, UInt8.reduceToNat, Nat.reduceOr, Nat.reduceAnd, Nat.reduceXor, Nat.reduceDiv, if_pos, if_neg, aStore, frz, AV.flat, ↓reduceIte, ne_eq, reduceCtorEq, Int.reduceToNat, Nat.reduceEqDiff, Nat.reduceAdd, Nat.reduceSub, Nat.reduceMul, Int.reduceAdd, Int.reduceMul, Int.reduceSub, Int.reduceLT, Int.reduceLE, Int.reduceEq, Int.reduceNe, Nat.reduceLeDiff, Nat.reduceLT, Int.reduceNeg, Nat.reducePow, Nat.reduceMod, ByteArray.size, fR, hcn, hbl])
    repeat (first | refine wA ?_ | refine wB ?_ | refine wC rfl ?_ | refine wD rfl ?_ | refine wE ?_ | refine wF (by omega) ?_ | ((first | refine wG ?_ | refine wH ?_ | refine wI ?_ | refine wJ ?_ | refine wK ?_ | refine wL ?_); simp (disch := omega) only [wP, wZ, undef, UInt8.reduceToNat, Nat.reduceOr, Nat.reduceAnd, Nat.reduceXor, Nat.reduceDiv, if_pos, if_neg, aStore, frz, AV.flat, ↓reduceIte, ne_eq, reduceCtorEq, Int.reduceToNat, Nat.reduceEqDiff, Nat.reduceAdd, Nat.reduceSub, Nat.reduceMul, Int.reduceAdd, Int.reduceMul, Int.reduceSub, Int.reduceLT, Int.reduceLE, Int.reduceEq, Int.reduceNe, Nat.reduceLeDiff, Nat.reduceLT, Int.reduceNeg, Nat.reducePow, Nat.reduceMod, ByteArray.size, d, dl]))
    exact KC_pos
  · have d : decide ((n : Int) < 2) = false := decide_eq_false (by omega)
    have hn0 : nl0 n = false := nl0_pos (by omega)
    rw [hn0]
    have hc := slices_SortStable_h l n hn (by omega)
    have hcn := hch (sortB l)
    rw [length_sortB, ← hn] at hcn
    have hKS := KS_le (n := n) (by omega)
    obtain ⟨Q, hQ⟩ : ∃ Q, Q = KS 640 := ⟨_, rfl⟩
    have hKC : KC = 100 + 20 * (Q + 20) := by rw [hQ]; rfl
    rw [← hQ] at hKS
    repeat (first | refine wA ?_ | refine wB ?_ | refine wC rfl ?_ | refine wD rfl ?_ | refine wE ?_ | refine wF (by omega) ?_ | ((first | refine wG ?_ | refine wH ?_ | refine wI ?_ | refine wJ ?_ | refine wK ?_ | refine wL ?_); simp (disch := omega) only [wP, wZ, undef, UInt8.reduceToNat, Nat.reduceOr, Nat.reduceAnd, Nat.reduceXor, Nat.reduceDiv, if_pos, if_neg, aStore, frz, AV.flat, ↓reduceIte, ne_eq, reduceCtorEq, Int.reduceToNat, Nat.reduceEqDiff, Nat.reduceAdd, Nat.reduceSub, Nat.reduceMul, Int.reduceAdd, Int.reduceMul, Int.reduceSub, Int.reduceLT, Int.reduceLE, Int.reduceEq, Int.reduceNe, Nat.reduceLeDiff, Nat.reduceLT, Int.reduceNeg, Nat.reducePow, Nat.reduceMod, ByteArray.size, d]))
    refine goC_h [(1000, 0)] 2000 hc (by simp) (by simp) ?_ ?_ ?_
    iterate 2 (case _ => simp (disch := omega) only [wP, wZ, undef, UInt8.reduceToNat, Nat.reduceOr, Nat.reduceAnd, Nat.reduceXor, Nat.reduceDiv, if_pos, if_neg, aStore, frz, AV.flat, ↓reduceIte, ne_eq, reduceCtorEq, Int.reduceToNat, Nat.reduceEqDiff, Nat.reduceAdd, Nat.reduceSub, Nat.reduceMul, Int.reduceAdd, Int.reduceMul, Int.reduceSub, Int.reduceLT, Int.reduceLE, Int.reduceEq, Int.reduceNe, Nat.reduceLeDiff, Nat.reduceLT, Int.reduceNeg, Nat.reducePow, Nat.reduceMod, ByteArray.size, renL_bC, cmpF])
    obtain ⟨m1, hm1⟩ : ∃ m1, m1 = most - 1 := ⟨_, rfl⟩
    have em : (most : Int) - 1 = (m1 : Int) := by omega
    repeat (first | refine wA ?_ | refine wB ?_ | refine wC rfl ?_ | refine wD rfl ?_ | refine wE ?_ | refine wF (by omega) ?_ | ((first | refine wG ?_ | refine wH ?_ | refine wI ?_ | refine wJ ?_ | refine wK ?_ | refine wL ?_); simp (disch := omega) only [wP, wZ, undef, UInt8.reduceToNat, Nat.reduceOr, Nat.reduceAnd, Nat.reduceXor, Nat.reduceDiv, if_pos, if_neg, aStore, frz, AV.flat, ↓reduceIte, ne_eq, reduceCtorEq, Int.reduceToNat, Nat.reduceEqDiff, Nat.reduceAdd, Nat.reduceSub, Nat.reduceMul, Int.reduceAdd, Int.reduceMul, Int.reduceSub, Int.reduceLT, Int.reduceLE, Int.reduceEq, Int.reduceNe, Nat.reduceLeDiff, Nat.reduceLT, Int.reduceNeg, Nat.reducePow, Nat.reduceMod, ByteArray.size, renL_bC, em]))
    refine SWp.le (le_mk (N := 31) (gc := Q + 20) (l := [(0, .own 1000 0 (some 2) 0 n), (5, .own 1000 0 (some 2) 0 n), (14, int (m1 : Int)), (15, int 0)]) (h := [(1000, 0, .row false (bC (sortB l)))]) rfl ?_ ?_ ?_) ?_
    · show 1 + (KS n + 1) ≤ Q + 20
      omega
    iterate 2 (case _ => simp (disch := omega) only [wP, wZ, undef, UInt8.reduceToNat, Nat.reduceOr, Nat.reduceAnd, Nat.reduceXor, Nat.reduceDiv, if_pos, if_neg, aStore, frz, AV.flat, ↓reduceIte, ne_eq, reduceCtorEq, Int.reduceToNat, Nat.reduceEqDiff, Nat.reduceAdd, Nat.reduceSub, Nat.reduceMul, Int.reduceAdd, Int.reduceMul, Int.reduceSub, Int.reduceLT, Int.reduceLE, Int.reduceEq, Int.reduceNe, Nat.reduceLeDiff, Nat.reduceLT, Int.reduceNeg, Nat.reducePow, Nat.reduceMod, ByteArray.size])
    refine SWp.frzo 1000 0 (nl := false) (cells := bC (sortB l)) (by simp (disch := omega) only [wP, wZ, undef, UInt8.reduceToNat, Nat.reduceOr, Nat.reduceAnd, Nat.reduceXor, Nat.reduceDiv, if_pos, if_neg, aStore, frz, AV.flat, ↓reduceIte, ne_eq, reduceCtorEq, Int.reduceToNat, Nat.reduceEqDiff, Nat.reduceAdd, Nat.reduceSub, Nat.reduceMul, Int.reduceAdd, Int.reduceMul, Int.reduceSub, Int.reduceLT, Int.reduceLE, Int.reduceEq, Int.reduceNe, Nat.reduceLeDiff, Nat.reduceLT, Int.reduceNeg, Nat.reducePow, Nat.reduceMod, ByteArray.size]) free_bC ?_
    refine SWp.le (le_mk (N := 31) (gc := Q + 20) (l := [(0, .sl false (some 2) ((sortB l).map bA)), (5, .sl false (some 2) ((sortB l).map bA)), (14, int (m1 : Int)), (15, int 0)]) (h := []) rfl ?_ ?_ ?_) ?_
    · exact Nat.le_refl _
    iterate 2 (case _ => simp (disch := omega) only [wP, wZ, undef, UInt8.reduceToNat, Nat.reduceOr, Nat.reduceAnd, Nat.reduceXor, Nat.reduceDiv, if_pos, if_neg, aStore, frz, AV.flat, ↓reduceIte, ne_eq, reduceCtorEq, Int.reduceToNat, Nat.reduceEqDiff, Nat.reduceAdd, Nat.reduceSub, Nat.reduceMul, Int.reduceAdd, Int.reduceMul, Int.reduceSub, Int.reduceLT, Int.reduceLE, Int.reduceEq, Int.reduceNe, Nat.reduceLeDiff, Nat.reduceLT, Int.reduceNeg, Nat.reducePow, Nat.reduceMod, ByteArray.size, fR, hcn, hbl2])
    refine SWp.loop (α := Nat) (fun k => mk 31 (Q + 20 + k * (Q + 20)) [(0, .sl false (some 2) ((sortB l).map bA)), (5, .sl false (some 2) ((lvB (sortB l) k).map bA)), (14, int (m1 : Int)), (15, int (k : Int))] [])
      (fun k => k ≤ m1) (fun k => m1 - k) 0 (Nat.zero_le _) (le_mk rfl ?_ ?_ ?_) ?_
    · show Q + 20 ≤ Q + 20 + 0 * (Q + 20)
      omega
    iterate 2 (case _ => simp (disch := omega) only [wP, wZ, undef, UInt8.reduceToNat, Nat.reduceOr, Nat.reduceAnd, Nat.reduceXor, Nat.reduceDiv, if_pos, if_neg, aStore, frz, AV.flat, ↓reduceIte, ne_eq, reduceCtorEq, Int.reduceToNat, Nat.reduceEqDiff, Nat.reduceAdd, Nat.reduceSub, Nat.reduceMul, Int.reduceAdd, Int.reduceMul, Int.reduceSub, Int.reduceLT, Int.reduceLE, Int.reduceEq, Int.reduceNe, Nat.reduceLeDiff, Nat.reduceLT, Int.reduceNeg, Nat.reducePow, Nat.reduceMod, ByteArray.size, lvB0])
    clear hc hcn hbl hbl2 hch
    intro k hk _
    by_cases ck : k < m1
    · have dk : decide ((k : Int) < (m1 : Int)) = true := decide_eq_true (by omega)
      have hlb := lv_big (S := sortB l) (fun p hp => hs p (mem_sortB.1 hp)) k
      have hlm := lv_max (S := sortB l) k
      have hsl : (sortB l).length = n := by rw [length_sortB, hn]
      rw [hsl] at hlm
      have hp2 : 2 ^ k ≤ 16384 := Nat.pow_le_pow_right (n := 2) (by omega) (show k ≤ 14 by omega)
      have hnx : lvB (sortB l) (k + 1) = sortB (sortB l ++ prs (lvB (sortB l) k)) := rfl
      obtain ⟨B, hBd⟩ : ∃ B, B = lvB (sortB l) k := ⟨_, rfl⟩
      rw [← hBd] at hlb hlm hnx
      have hpl := length_prs B
      have cP := huff_pairs_c false B (by omega) (fun p hp => by have := hlb p hp; omega)
      rw [prK_prs _ _ rfl] at cP
      obtain ⟨N2, hN2⟩ : ∃ N2, N2 = (sortB l).length + (prs B).length := ⟨_, rfl⟩
      have cC := slices_ConcatB false (nl0 (B.length / 2)) (sortB l) (prs B) (by omega) (by omega) (by omega)
      rw [← hN2] at cC
      have cS := slices_SortStable_h (sortB l ++ prs B) N2 (by simp only [List.length_append]; omega) (by omega)
      have hK2 := KS_le (n := N2) (by omega)
      rw [← hQ] at hK2
      rw [← hBd]
      repeat (first | refine wA ?_ | refine wB ?_ | refine wC rfl ?_ | refine wD rfl ?_ | refine wE ?_ | refine wF (by omega) ?_ | ((first | refine wG ?_ | refine wH ?_ | refine wI ?_ | refine wJ ?_ | refine wK ?_ | refine wL ?_); simp (disch := omega) only [wP, wZ, undef, UInt8.reduceToNat, Nat.reduceOr, Nat.reduceAnd, Nat.reduceXor, Nat.reduceDiv, if_pos, if_neg, aStore, frz, AV.flat, ↓reduceIte, ne_eq, reduceCtorEq, Int.reduceToNat, Nat.reduceEqDiff, Nat.reduceAdd, Nat.reduceSub, Nat.reduceMul, Int.reduceAdd, Int.reduceMul, Int.reduceSub, Int.reduceLT, Int.reduceLE, Int.reduceEq, Int.reduceNe, Nat.reduceLeDiff, Nat.reduceLT, Int.reduceNeg, Nat.reducePow, Nat.reduceMod, ByteArray.size, dk]))
      refine goC_p _ (.inl ⟨by simp only [AV.free, AV.free.freeL, free_bA, Bool.and_self], cP⟩) ?_
      repeat (first | refine wA ?_ | refine wB ?_ | refine wC rfl ?_ | refine wD rfl ?_ | refine wE ?_ | refine wF (by omega) ?_ | ((first | refine wG ?_ | refine wH ?_ | refine wI ?_ | refine wJ ?_ | refine wK ?_ | refine wL ?_); simp (disch := omega) only [wP, wZ, undef, UInt8.reduceToNat, Nat.reduceOr, Nat.reduceAnd, Nat.reduceXor, Nat.reduceDiv, if_pos, if_neg, aStore, frz, AV.flat, ↓reduceIte, ne_eq, reduceCtorEq, Int.reduceToNat, Nat.reduceEqDiff, Nat.reduceAdd, Nat.reduceSub, Nat.reduceMul, Int.reduceAdd, Int.reduceMul, Int.reduceSub, Int.reduceLT, Int.reduceLE, Int.reduceEq, Int.reduceNe, Nat.reduceLeDiff, Nat.reduceLT, Int.reduceNeg, Nat.reducePow, Nat.reduceMod, ByteArray.size, free_bA]))
      refine goC_h [] 3000 cC (by simp) (by simp) ?_ ?_ ?_
      iterate 2 (case _ => simp (disch := omega) only [wP, wZ, undef, UInt8.reduceToNat, Nat.reduceOr, Nat.reduceAnd, Nat.reduceXor, Nat.reduceDiv, if_pos, if_neg, aStore, frz, AV.flat, ↓reduceIte, ne_eq, reduceCtorEq, Int.reduceToNat, Nat.reduceEqDiff, Nat.reduceAdd, Nat.reduceSub, Nat.reduceMul, Int.reduceAdd, Int.reduceMul, Int.reduceSub, Int.reduceLT, Int.reduceLE, Int.reduceEq, Int.reduceNe, Nat.reduceLeDiff, Nat.reduceLT, Int.reduceNeg, Nat.reducePow, Nat.reduceMod, ByteArray.size, renL_bA])
      repeat (first | refine wA ?_ | refine wB ?_ | refine wC rfl ?_ | refine wD rfl ?_ | refine wE ?_ | refine wF (by omega) ?_ | ((first | refine wG ?_ | refine wH ?_ | refine wI ?_ | refine wJ ?_ | refine wK ?_ | refine wL ?_); simp (disch := omega) only [wP, wZ, undef, UInt8.reduceToNat, Nat.reduceOr, Nat.reduceAnd, Nat.reduceXor, Nat.reduceDiv, if_pos, if_neg, aStore, frz, AV.flat, ↓reduceIte, ne_eq, reduceCtorEq, Int.reduceToNat, Nat.reduceEqDiff, Nat.reduceAdd, Nat.reduceSub, Nat.reduceMul, Int.reduceAdd, Int.reduceMul, Int.reduceSub, Int.reduceLT, Int.reduceLE, Int.reduceEq, Int.reduceNe, Nat.reduceLeDiff, Nat.reduceLT, Int.reduceNeg, Nat.reducePow, Nat.reduceMod, ByteArray.size, renL_bC, renL_bA]))
      refine goC_h [(4022, Q + 20 + k * (Q + 20) + 4)] 5000 cS (by simp) (by simp) ?_ ?_ ?_
      iterate 2 (case _ => simp (disch := omega) only [wP, wZ, undef, UInt8.reduceToNat, Nat.reduceOr, Nat.reduceAnd, Nat.reduceXor, Nat.reduceDiv, if_pos, if_neg, aStore, frz, AV.flat, ↓reduceIte, ne_eq, reduceCtorEq, Int.reduceToNat, Nat.reduceEqDiff, Nat.reduceAdd, Nat.reduceSub, Nat.reduceMul, Int.reduceAdd, Int.reduceMul, Int.reduceSub, Int.reduceLT, Int.reduceLE, Int.reduceEq, Int.reduceNe, Nat.reduceLeDiff, Nat.reduceLT, Int.reduceNeg, Nat.reducePow, Nat.reduceMod, ByteArray.size, renL_bC, cmpF])
      have hch2 : chunks (some 2) N2 (bC (sortB (sortB l ++ prs B))) = (sortB (sortB l ++ prs B)).map bA := by
        have := chunks_bC (l := sortB (sortB l ++ prs B))
        rw [length_sortB, List.length_append, ← hN2] at this
        exact this
      have hbl3 : (bC (sortB (sortB l ++ prs B))).length = N2 * 2 := by rw [length_bC, length_sortB, List.length_append, hN2]
      have hkk : (k + 1) * (Q + 20) = k * (Q + 20) + (Q + 20) := Nat.succ_mul _ _
      change SWp _ _ _ _
      refine SWp.le (le_mk (N := 31) (gc := Q + 20 + (k + 1) * (Q + 20)) (l := [(0, .sl false (some 2) ((sortB l).map bA)), (5, .own 4022 (Q + 20 + k * (Q + 20) + 4) (some 2) 0 N2), (14, int (m1 : Int)), (15, int (k : Int))]) (h := [(4022, Q + 20 + k * (Q + 20) + 4, .row false (bC (sortB (sortB l ++ prs B))))]) rfl ?_ ?_ ?_) ?_
      · show Q + 20 + k * (Q + 20) + 5 + (KS N2 + 1) ≤ _
        omega
      iterate 2 (case _ => simp (disch := omega) only [wP, wZ, undef, UInt8.reduceToNat, Nat.reduceOr, Nat.reduceAnd, Nat.reduceXor, Nat.reduceDiv, if_pos, if_neg, aStore, frz, AV.flat, ↓reduceIte, ne_eq, reduceCtorEq, Int.reduceToNat, Nat.reduceEqDiff, Nat.reduceAdd, Nat.reduceSub, Nat.reduceMul, Int.reduceAdd, Int.reduceMul, Int.reduceSub, Int.reduceLT, Int.reduceLE, Int.reduceEq, Int.reduceNe, Nat.reduceLeDiff, Nat.reduceLT, Int.reduceNeg, Nat.reducePow, Nat.reduceMod, ByteArray.size, renL_bC])
      refine SWp.frzo 4022 (Q + 20 + k * (Q + 20) + 4) (nl := false) (cells := bC (sortB (sortB l ++ prs B))) (by simp (disch := omega) only [wP, wZ, undef, UInt8.reduceToNat, Nat.reduceOr, Nat.reduceAnd, Nat.reduceXor, Nat.reduceDiv, if_pos, if_neg, aStore, frz, AV.flat, ↓reduceIte, ne_eq, reduceCtorEq, Int.reduceToNat, Nat.reduceEqDiff, Nat.reduceAdd, Nat.reduceSub, Nat.reduceMul, Int.reduceAdd, Int.reduceMul, Int.reduceSub, Int.reduceLT, Int.reduceLE, Int.reduceEq, Int.reduceNe, Nat.reduceLeDiff, Nat.reduceLT, Int.reduceNeg, Nat.reducePow, Nat.reduceMod, ByteArray.size]) free_bC ?_
      refine SWp.le (le_mk (N := 31) (gc := Q + 20 + (k + 1) * (Q + 20)) (l := [(0, .sl false (some 2) ((sortB l).map bA)), (5, .sl false (some 2) ((sortB (sortB l ++ prs B)).map bA)), (14, int (m1 : Int)), (15, int (k : Int))]) (h := []) rfl ?_ ?_ ?_) ?_
      · exact Nat.le_refl _
      iterate 2 (case _ => simp (disch := omega) only [wP, wZ, undef, UInt8.reduceToNat, Nat.reduceOr, Nat.reduceAnd, Nat.reduceXor, Nat.reduceDiv, if_pos, if_neg, aStore, frz, AV.flat, ↓reduceIte, ne_eq, reduceCtorEq, Int.reduceToNat, Nat.reduceEqDiff, Nat.reduceAdd, Nat.reduceSub, Nat.reduceMul, Int.reduceAdd, Int.reduceMul, Int.reduceSub, Int.reduceLT, Int.reduceLE, Int.reduceEq, Int.reduceNe, Nat.reduceLeDiff, Nat.reduceLT, Int.reduceNeg, Nat.reducePow, Nat.reduceMod, ByteArray.size, fR, hch2, hbl3])
      repeat (first | refine wA ?_ | refine wB ?_ | refine wC rfl ?_ | refine wD rfl ?_ | refine wE ?_ | refine wF (by omega) ?_ | ((first | refine wG ?_ | refine wH ?_ | refine wI ?_ | refine wJ ?_ | refine wK ?_ | refine wL ?_); simp (disch := omega) only [wP, wZ, undef, UInt8.reduceToNat, Nat.reduceOr, Nat.reduceAnd, Nat.reduceXor, Nat.reduceDiv, if_pos, if_neg, aStore, frz, AV.flat, ↓reduceIte, ne_eq, reduceCtorEq, Int.reduceToNat, Nat.reduceEqDiff, Nat.reduceAdd, Nat.reduceSub, Nat.reduceMul, Int.reduceAdd, Int.reduceMul, Int.reduceSub, Int.reduceLT, Int.reduceLE, Int.reduceEq, Int.reduceNe, Nat.reduceLeDiff, Nat.reduceLT, Int.reduceNeg, Nat.reducePow, Nat.reduceMod, ByteArray.size]))
      refine At.of (k + 1) (by omega) (by omega) rfl rfl (Nat.le_refl _) ?_ ?_
      iterate 2 (case _ => simp (disch := omega) only [wP, wZ, undef, UInt8.reduceToNat, Nat.reduceOr, Nat.reduceAnd, Nat.reduceXor, Nat.reduceDiv, if_pos, if_neg, aStore, frz, AV.flat, ↓reduceIte, ne_eq, reduceCtorEq, Int.reduceToNat, Nat.reduceEqDiff, Nat.reduceAdd, Nat.reduceSub, Nat.reduceMul, Int.reduceAdd, Int.reduceMul, Int.reduceSub, Int.reduceLT, Int.reduceLE, Int.reduceEq, Int.reduceNe, Nat.reduceLeDiff, Nat.reduceLT, Int.reduceNeg, Nat.reducePow, Nat.reduceMod, ByteArray.size, hnx])
    · have dk : decide ((k : Int) < (m1 : Int)) = false := decide_eq_false (by omega)
      obtain rfl : k = m1 := by omega
      have hsl : (sortB l).length = n := by rw [length_sortB, hn]
      have hlen := lv_len (S := sortB l) k 2 (by
        have : 2 * 2 ^ k = 2 ^ most := by rw [show most = k + 1 by omega, Nat.pow_succ, Nat.mul_comm]
        rw [hsl]; omega)
      rw [hsl] at hlen
      have hbe : bestL l most = (lvB (sortB l) k).take (2 * n - 2) := by rw [bestL, if_neg (by omega), ← hm1, ← hn]
      obtain ⟨n2, hn2⟩ : ∃ n2, n2 = 2 * n := ⟨_, rfl⟩
      obtain ⟨t, ht⟩ : ∃ t, t = 2 * n - 2 := ⟨_, rfl⟩
      have e1 : 2 * (n : Int) = (n2 : Int) := by omega
      have e2 : (n2 : Int) - 2 = (t : Int) := by omega
      rw [hbe, ← ht]
      rw [← ht] at hlen
      repeat (first | refine wA ?_ | refine wB ?_ | refine wC rfl ?_ | refine wD rfl ?_ | refine wE ?_ | refine wF (by omega) ?_ | ((first | refine wG ?_ | refine wH ?_ | refine wI ?_ | refine wJ ?_ | refine wK ?_ | refine wL ?_); simp (disch := omega) only [wP, wZ, undef, UInt8.reduceToNat, Nat.reduceOr, Nat.reduceAnd, Nat.reduceXor, Nat.reduceDiv, if_pos, if_neg, aStore, frz, AV.flat, ↓reduceIte, ne_eq, reduceCtorEq, Int.reduceToNat, Nat.reduceEqDiff, Nat.reduceAdd, Nat.reduceSub, Nat.reduceMul, Int.reduceAdd, Int.reduceMul, Int.reduceSub, Int.reduceLT, Int.reduceLE, Int.reduceEq, Int.reduceNe, Nat.reduceLeDiff, Nat.reduceLT, Int.reduceNeg, Nat.reducePow, Nat.reduceMod, ByteArray.size, dk, hsl, e1, e2]))
      have hkk : k * (Q + 20) ≤ 15 * (Q + 20) := Nat.mul_le_mul_right _ (by omega)
      exact ⟨List.map_take.symm, by rw [hKC]; omega⟩
end Go.Proofs.Ytbmppmdklappiaa.Aw
namespace Go.Proofs.Ytbmppmdklappiaa.Aw
open Go
set_option linter.unusedSimpArgs false
set_option linter.unusedVariables false
def bdC (x : Int) : Bool := decide (x < 0) || decide (4294967296 < x)
def usedC (cs : List Int) : Nat := cs.countP fun x => decide (0 < x)
def badE (cs : List Int) (most : Int) : Nat := if most < 1 ∨ 15 < most then 1 else if 320 < cs.length then 4 else if cs.any bdC = true then 1 else if 2 ^ most.toNat < usedC cs then 4 else 0
theorem usedC_snoc {cs : List Int} {k : Nat} (h : k < cs.length) : usedC (cs.take (k + 1)) = usedC (cs.take k) + if 0 < cs[k] then 1 else 0 := by
  unfold usedC
  rw [List.take_succ_eq_append_getElem h, List.countP_append]
  simp [List.countP_cons]
theorem usedC_le {cs : List Int} : usedC cs ≤ cs.length := List.countP_le_length
set_option maxHeartbeats 400000 in
set_option maxRecDepth 100000 in
theorem ref_Bad_c [Tabs Try.prog] (nl : Bool) (cs : List Int) (most : Int) : Con Try.prog n_drayageref03_Bad [.sl nl none (cs.map int), int most] (int (badE cs most : Int)) := by
  refine Con.of' mix Try.func29 rfl Try.ntmps29 e_drayageref03_Bad r_drayageref03_Bad (by simp) (by simp only [AV.free, AV.free.freeL, free_zA, int, Bool.and_self]) rfl ?_
  unfold s_drayageref03_Bad badE
  by_cases c1 : most < 1
  · have d1 := decide_eq_true c1
    rw [if_pos (.inl c1)]
    repeat (first | refine wA ?_ | refine wB ?_ | refine wC rfl ?_ | refine wD rfl ?_ | refine wE ?_ | refine wF (by omega) ?_ | ((first | refine wG ?_ | refine wH ?_ | refine wI ?_ | refine wJ ?_ | refine wK ?_ | refine wL ?_); simp (disch := omega) only [wP, wZ, undef, UInt8.reduceToNat, Nat.reduceOr, Nat.reduceAnd, Nat.reduceXor, Nat.reduceDiv, if_pos, if_neg, aStore, frz, AV.flat, ↓reduceIte, ne_eq, reduceCtorEq, Int.reduceToNat, Nat.reduceEqDiff, Nat.reduceAdd, Nat.reduceSub, Nat.reduceMul, Int.reduceAdd, Int.reduceMul, Int.reduceSub, Int.reduceLT, Int.reduceLE, Int.reduceEq, Int.reduceNe, Nat.reduceLeDiff, Nat.reduceLT, Int.reduceNeg, Nat.reducePow, Nat.reduceMod, ByteArray.size, d1]))
  have d1 := decide_eq_false c1
  by_cases c2 : 15 < most
  · have d2 := decide_eq_true c2
    rw [if_pos (.inr c2)]
    repeat (first | refine wA ?_ | refine wB ?_ | refine wC rfl ?_ | refine wD rfl ?_ | refine wE ?_ | refine wF (by omega) ?_ | ((first | refine wG ?_ | refine wH ?_ | refine wI ?_ | refine wJ ?_ | refine wK ?_ | refine wL ?_); simp (disch := omega) only [wP, wZ, undef, UInt8.reduceToNat, Nat.reduceOr, Nat.reduceAnd, Nat.reduceXor, Nat.reduceDiv, if_pos, if_neg, aStore, frz, AV.flat, ↓reduceIte, ne_eq, reduceCtorEq, Int.reduceToNat, Nat.reduceEqDiff, Nat.reduceAdd, Nat.reduceSub, Nat.reduceMul, Int.reduceAdd, Int.reduceMul, Int.reduceSub, Int.reduceLT, Int.reduceLE, Int.reduceEq, Int.reduceNe, Nat.reduceLeDiff, Nat.reduceLT, Int.reduceNeg, Nat.reducePow, Nat.reduceMod, ByteArray.size, d1, d2]))
  have d2 := decide_eq_false c2
  rw [if_neg (by omega)]
  by_cases c3 : 320 < cs.length
  · have d3 : decide ((320 : Int) < (cs.length : Int)) = true := decide_eq_true (by omega)
    rw [if_pos c3]
    repeat (first | refine wA ?_ | refine wB ?_ | refine wC rfl ?_ | refine wD rfl ?_ | refine wE ?_ | refine wF (by omega) ?_ | ((first | refine wG ?_ | refine wH ?_ | refine wI ?_ | refine wJ ?_ | refine wK ?_ | refine wL ?_); simp (disch := omega) only [wP, wZ, undef, UInt8.reduceToNat, Nat.reduceOr, Nat.reduceAnd, Nat.reduceXor, Nat.reduceDiv, if_pos, if_neg, aStore, frz, AV.flat, ↓reduceIte, ne_eq, reduceCtorEq, Int.reduceToNat, Nat.reduceEqDiff, Nat.reduceAdd, Nat.reduceSub, Nat.reduceMul, Int.reduceAdd, Int.reduceMul, Int.reduceSub, Int.reduceLT, Int.reduceLE, Int.reduceEq, Int.reduceNe, Nat.reduceLeDiff, Nat.reduceLT, Int.reduceNeg, Nat.reducePow, Nat.reduceMod, ByteArray.size, d1, d2, d3, List.length_map]))
  have d3 : decide ((320 : Int) < (cs.length : Int)) = false := decide_eq_false (by omega)
  rw [if_neg c3]
  obtain ⟨q, rfl⟩ : ∃ q : Nat, most = (q : Int) := ⟨most.toNat, by omega⟩
  rw [Int.toNat_natCast]
  obtain ⟨E, hE⟩ : ∃ E : Nat, E = if cs.any bdC = true then 1 else if 2 ^ q < usedC cs then 4 else 0 := ⟨_, rfl⟩
  rw [← hE]
  repeat (first | refine wA ?_ | refine wB ?_ | refine wC rfl ?_ | refine wD rfl ?_ | refine wE ?_ | refine wF (by omega) ?_ | ((first | refine wG ?_ | refine wH ?_ | refine wI ?_ | refine wJ ?_ | refine wK ?_ | refine wL ?_); simp (disch := omega) only [wP, wZ, undef, UInt8.reduceToNat, Nat.reduceOr, Nat.reduceAnd, Nat.reduceXor, Nat.reduceDiv, if_pos, if_neg, aStore, frz, AV.flat, ↓reduceIte, ne_eq, reduceCtorEq, Int.reduceToNat, Nat.reduceEqDiff, Nat.reduceAdd, Nat.reduceSub, Nat.reduceMul, Int.reduceAdd, Int.reduceMul, Int.reduceSub, Int.reduceLT, Int.reduceLE, Int.reduceEq, Int.reduceNe, Nat.reduceLeDiff, Nat.reduceLT, Int.reduceNeg, Nat.reducePow, Nat.reduceMod, ByteArray.size, d1, d2, d3, List.length_map]))
  refine SWp.loop (α := Nat) (fun k => mk 46 1 [(0, .sl nl none (cs.map int)), (1, int (q : Int)), (5, int (usedC (cs.take k) : Int)), (6, int (k : Int))] [])
    (fun k => k ≤ cs.length ∧ (cs.take k).any bdC = false) (fun k => cs.length - k) 0 ⟨Nat.zero_le _, by simp⟩ (le_mk rfl ?_ ?_ ?_) ?_
  · first | exact Nat.le_refl _ | exact Nat.zero_le _
  · simp (disch := omega) only [wP, wZ, undef, UInt8.reduceToNat, Nat.reduceOr, Nat.reduceAnd, Nat.reduceXor, Nat.reduceDiv, if_pos, if_neg, aStore, frz, AV.flat, ↓reduceIte, ne_eq, reduceCtorEq, Int.reduceToNat, Nat.reduceEqDiff, Nat.reduceAdd, Nat.reduceSub, Nat.reduceMul, Int.reduceAdd, Int.reduceMul, Int.reduceSub, Int.reduceLT, Int.reduceLE, Int.reduceEq, Int.reduceNe, Nat.reduceLeDiff, Nat.reduceLT, Int.reduceNeg, Nat.reducePow, Nat.reduceMod, ByteArray.size, show usedC (cs.take 0) = 0 from rfl, show usedC [] = 0 from rfl]
    try rfl
  · simp (disch := omega) only [wP, wZ, undef, UInt8.reduceToNat, Nat.reduceOr, Nat.reduceAnd, Nat.reduceXor, Nat.reduceDiv, if_pos, if_neg, aStore, frz, AV.flat, ↓reduceIte, ne_eq, reduceCtorEq, Int.reduceToNat, Nat.reduceEqDiff, Nat.reduceAdd, Nat.reduceSub, Nat.reduceMul, Int.reduceAdd, Int.reduceMul, Int.reduceSub, Int.reduceLT, Int.reduceLE, Int.reduceEq, Int.reduceNe, Nat.reduceLeDiff, Nat.reduceLT, Int.reduceNeg, Nat.reducePow, Nat.reduceMod, ByteArray.size]
  rintro k ⟨hk, hany⟩ -
  obtain ⟨u, hu⟩ : ∃ u, u = usedC (cs.take k) := ⟨_, rfl⟩
  have hul : u ≤ k := by rw [hu]; exact Nat.le_trans usedC_le (by rw [List.length_take]; omega)
  rw [← hu]
  by_cases ck : k < cs.length
  · have dk : decide ((k : Int) < (cs.length : Int)) = true := decide_eq_true (by omega)
    obtain ⟨x, hx⟩ : ∃ x, x = cs[k] := ⟨_, rfl⟩
    have hg : (cs.map int).getD k .junk = .sc (.int .i64 x) := by rw [hx]; simp [List.getD, ck, int]
    have hus := usedC_snoc ck
    rw [← hu, ← hx] at hus
    have htk : (cs.take (k + 1)).any bdC = bdC x := by rw [List.take_succ_eq_append_getElem ck, List.any_append, hany, ← hx]; simp
    by_cases c4 : x < 0
    · have d4 := decide_eq_true c4
      have hE1 : E = 1 := by
        rw [hE, if_pos]
        rw [List.any_eq_true]
        exact ⟨x, by rw [hx]; exact List.getElem_mem _, by unfold bdC; rw [d4]; rfl⟩
      rw [hE1]
      repeat (first | refine wA ?_ | refine wB ?_ | refine wC rfl ?_ | refine wD rfl ?_ | refine wE ?_ | refine wF (by omega) ?_ | ((first | refine wG ?_ | refine wH ?_ | refine wI ?_ | refine wJ ?_ | refine wK ?_ | refine wL ?_); simp (disch := omega) only [wP, wZ, undef, UInt8.reduceToNat, Nat.reduceOr, Nat.reduceAnd, Nat.reduceXor, Nat.reduceDiv, if_pos, if_neg, aStore, frz, AV.flat, ↓reduceIte, ne_eq, reduceCtorEq, Int.reduceToNat, Nat.reduceEqDiff, Nat.reduceAdd, Nat.reduceSub, Nat.reduceMul, Int.reduceAdd, Int.reduceMul, Int.reduceSub, Int.reduceLT, Int.reduceLE, Int.reduceEq, Int.reduceNe, Nat.reduceLeDiff, Nat.reduceLT, Int.reduceNeg, Nat.reducePow, Nat.reduceMod, ByteArray.size, dk, List.length_map, hg, d4]))
    have d4 := decide_eq_false c4
    by_cases c5 : 4294967296 < x
    · have d5 := decide_eq_true c5
      have hE1 : E = 1 := by
        rw [hE, if_pos]
        rw [List.any_eq_true]
        exact ⟨x, by rw [hx]; exact List.getElem_mem _, by unfold bdC; rw [d5, Bool.or_true]⟩
      rw [hE1]
      repeat (first | refine wA ?_ | refine wB ?_ | refine wC rfl ?_ | refine wD rfl ?_ | refine wE ?_ | refine wF (by omega) ?_ | ((first | refine wG ?_ | refine wH ?_ | refine wI ?_ | refine wJ ?_ | refine wK ?_ | refine wL ?_); simp (disch := omega) only [wP, wZ, undef, UInt8.reduceToNat, Nat.reduceOr, Nat.reduceAnd, Nat.reduceXor, Nat.reduceDiv, if_pos, if_neg, aStore, frz, AV.flat, ↓reduceIte, ne_eq, reduceCtorEq, Int.reduceToNat, Nat.reduceEqDiff, Nat.reduceAdd, Nat.reduceSub, Nat.reduceMul, Int.reduceAdd, Int.reduceMul, Int.reduceSub, Int.reduceLT, Int.reduceLE, Int.reduceEq, Int.reduceNe, Nat.reduceLeDiff, Nat.reduceLT, Int.reduceNeg, Nat.reducePow, Nat.reduceMod, ByteArray.size, dk, List.length_map, hg, d4, d5]))
    have d5 := decide_eq_false c5
    have hb : bdC x = false := by unfold bdC; rw [d4, d5]; rfl
    by_cases c6 : 0 < x
    · have d6 := decide_eq_true c6
      rw [if_pos c6] at hus
      have eu : (u : Int) + 1 = ((usedC (cs.take (k + 1)) : Nat) : Int) := by omega
      repeat (first | refine wA ?_ | refine wB ?_ | refine wC rfl ?_ | refine wD rfl ?_ | refine wE ?_ | refine wF (by omega) ?_ | ((first | refine wG ?_ | refine wH ?_ | refine wI ?_ | refine wJ ?_ | refine wK ?_ | refine wL ?_); simp (disch := omega) only [wP, wZ, undef, UInt8.reduceToNat, Nat.reduceOr, Nat.reduceAnd, Nat.reduceXor, Nat.reduceDiv, if_pos, if_neg, aStore, frz, AV.flat, ↓reduceIte, ne_eq, reduceCtorEq, Int.reduceToNat, Nat.reduceEqDiff, Nat.reduceAdd, Nat.reduceSub, Nat.reduceMul, Int.reduceAdd, Int.reduceMul, Int.reduceSub, Int.reduceLT, Int.reduceLE, Int.reduceEq, Int.reduceNe, Nat.reduceLeDiff, Nat.reduceLT, Int.reduceNeg, Nat.reducePow, Nat.reduceMod, ByteArray.size, dk, List.length_map, hg, d4, d5, d6]))
      refine At.of (k + 1) ⟨by omega, by rw [htk, hb]⟩ (by omega) rfl rfl (Nat.le_refl _) ?_ ?_
      iterate 2 (case _ => simp (disch := omega) only [wP, wZ, undef, UInt8.reduceToNat, Nat.reduceOr, Nat.reduceAnd, Nat.reduceXor, Nat.reduceDiv, if_pos, if_neg, aStore, frz, AV.flat, ↓reduceIte, ne_eq, reduceCtorEq, Int.reduceToNat, Nat.reduceEqDiff, Nat.reduceAdd, Nat.reduceSub, Nat.reduceMul, Int.reduceAdd, Int.reduceMul, Int.reduceSub, Int.reduceLT, Int.reduceLE, Int.reduceEq, Int.reduceNe, Nat.reduceLeDiff, Nat.reduceLT, Int.reduceNeg, Nat.reducePow, Nat.reduceMod, ByteArray.size, eu])
    · have d6 := decide_eq_false c6
      rw [if_neg c6, Nat.add_zero] at hus
      repeat (first | refine wA ?_ | refine wB ?_ | refine wC rfl ?_ | refine wD rfl ?_ | refine wE ?_ | refine wF (by omega) ?_ | ((first | refine wG ?_ | refine wH ?_ | refine wI ?_ | refine wJ ?_ | refine wK ?_ | refine wL ?_); simp (disch := omega) only [wP, wZ, undef, UInt8.reduceToNat, Nat.reduceOr, Nat.reduceAnd, Nat.reduceXor, Nat.reduceDiv, if_pos, if_neg, aStore, frz, AV.flat, ↓reduceIte, ne_eq, reduceCtorEq, Int.reduceToNat, Nat.reduceEqDiff, Nat.reduceAdd, Nat.reduceSub, Nat.reduceMul, Int.reduceAdd, Int.reduceMul, Int.reduceSub, Int.reduceLT, Int.reduceLE, Int.reduceEq, Int.reduceNe, Nat.reduceLeDiff, Nat.reduceLT, Int.reduceNeg, Nat.reducePow, Nat.reduceMod, ByteArray.size, dk, List.length_map, hg, d4, d5, d6]))
      refine At.of (k + 1) ⟨by omega, by rw [htk, hb]⟩ (by omega) rfl rfl (Nat.le_refl _) ?_ ?_
      iterate 2 (case _ => simp (disch := omega) only [wP, wZ, undef, UInt8.reduceToNat, Nat.reduceOr, Nat.reduceAnd, Nat.reduceXor, Nat.reduceDiv, if_pos, if_neg, aStore, frz, AV.flat, ↓reduceIte, ne_eq, reduceCtorEq, Int.reduceToNat, Nat.reduceEqDiff, Nat.reduceAdd, Nat.reduceSub, Nat.reduceMul, Int.reduceAdd, Int.reduceMul, Int.reduceSub, Int.reduceLT, Int.reduceLE, Int.reduceEq, Int.reduceNe, Nat.reduceLeDiff, Nat.reduceLT, Int.reduceNeg, Nat.reducePow, Nat.reduceMod, ByteArray.size, hus])
  · have dk : decide ((k : Int) < (cs.length : Int)) = false := decide_eq_false (by omega)
    obtain rfl : k = cs.length := by omega
    rw [List.take_length] at hany hu
    rw [if_neg (by rw [hany]; simp)] at hE
    have hq : 2 ^ q ≤ 32768 := Nat.pow_le_pow_right (n := 2) (by omega) (show q ≤ 15 by omega)
    have hw : IntKind.u64.wrap (q : Int) = (q : Int) := wrap_u64_id3 (by omega) (by omega)
    have hq1 : 1 ≤ 2 ^ q := Nat.one_le_two_pow
    by_cases c7 : 2 ^ q < usedC cs
    · rw [if_pos c7] at hE
      rw [hE]
      have d7 : decide (((1 * 2 ^ q : Nat) : Int) < (u : Int)) = true := decide_eq_true (Int.ofNat_lt.2 (by omega))
      repeat (first | refine wA ?_ | refine wB ?_ | refine wC rfl ?_ | refine wD rfl ?_ | refine wE ?_ | refine wF (by omega) ?_ | ((first | refine wG ?_ | refine wH ?_ | refine wI ?_ | refine wJ ?_ | refine wK ?_ | refine wL ?_); simp (disch := omega) only [wP, wZ, undef, UInt8.reduceToNat, Nat.reduceOr, Nat.reduceAnd, Nat.reduceXor, Nat.reduceDiv, if_pos, if_neg, aStore, frz, AV.flat, ↓reduceIte, ne_eq, reduceCtorEq, Int.reduceToNat, Nat.reduceEqDiff, Nat.reduceAdd, Nat.reduceSub, Nat.reduceMul, Int.reduceAdd, Int.reduceMul, Int.reduceSub, Int.reduceLT, Int.reduceLE, Int.reduceEq, Int.reduceNe, Nat.reduceLeDiff, Nat.reduceLT, Int.reduceNeg, Nat.reducePow, Nat.reduceMod, ByteArray.size, dk, List.length_map, hw, d7]))
    · rw [if_neg c7] at hE
      rw [hE]
      have d7 : decide (((1 * 2 ^ q : Nat) : Int) < (u : Int)) = false := decide_eq_false (fun h => c7 (by have := Int.ofNat_lt.1 h; omega))
      repeat (first | refine wA ?_ | refine wB ?_ | refine wC rfl ?_ | refine wD rfl ?_ | refine wE ?_ | refine wF (by omega) ?_ | ((first | refine wG ?_ | refine wH ?_ | refine wI ?_ | refine wJ ?_ | refine wK ?_ | refine wL ?_); simp (disch := omega) only [wP, wZ, undef, UInt8.reduceToNat, Nat.reduceOr, Nat.reduceAnd, Nat.reduceXor, Nat.reduceDiv, if_pos, if_neg, aStore, frz, AV.flat, ↓reduceIte, ne_eq, reduceCtorEq, Int.reduceToNat, Nat.reduceEqDiff, Nat.reduceAdd, Nat.reduceSub, Nat.reduceMul, Int.reduceAdd, Int.reduceMul, Int.reduceSub, Int.reduceLT, Int.reduceLE, Int.reduceEq, Int.reduceNe, Nat.reduceLeDiff, Nat.reduceLT, Int.reduceNeg, Nat.reducePow, Nat.reduceMod, ByteArray.size, dk, List.length_map, hw, d7]))
end Go.Proofs.Ytbmppmdklappiaa.Aw
namespace Go.Proofs.Ytbmppmdklappiaa.Aw
open Go
set_option linter.unusedSimpArgs false
set_option linter.unusedVariables false
def sgP (c : List Nat) (k : Nat) : List Bt := ((List.range k).filter fun s => decide (0 < c.getD s 0)).map fun s => (c.getD s 0, [s])
theorem sgP_all {c : List Nat} : sgP c c.length = sgB c := rfl
theorem sgP_pos {c : List Nat} {k : Nat} (h : 0 < c.getD k 0) : sgP c (k + 1) = sgP c k ++ [(c.getD k 0, [k])] := by
  simp only [sgP, List.range_succ, List.filter_append, List.map_append]
  rw [List.filter_cons_of_pos (by simpa using h)]
  rfl
theorem sgP_not {c : List Nat} {k : Nat} (h : ¬ 0 < c.getD k 0) : sgP c (k + 1) = sgP c k := by
  simp only [sgP, List.range_succ, List.filter_append, List.map_append]
  rw [List.filter_cons_of_neg (by simpa using h)]
  simp
theorem sgP_len {cs : List Int} : ∀ {k : Nat}, k ≤ cs.length → (sgP (cs.map Int.toNat) k).length = usedC (cs.take k)
  | 0, _ => rfl
  | k + 1, h => by
    have hk : k < cs.length := by omega
    have ih := sgP_len (cs := cs) (k := k) (by omega)
    have hg : (cs.map Int.toNat).getD k 0 = cs[k].toNat := by simp [List.getD, hk]
    have hu : usedC (cs.take (k + 1)) = usedC (cs.take k) + if 0 < cs[k] then 1 else 0 := by
      unfold usedC
      rw [List.take_succ_eq_append_getElem hk, List.countP_append]
      simp [List.countP_cons]
    rw [hu]
    by_cases c : 0 < cs[k]
    · rw [sgP_pos (by rw [hg]; omega), List.length_append, ih, if_pos c]; rfl
    · rw [sgP_not (by rw [hg]; omega), ih, if_neg c]; rfl
theorem sgP_each {c : List Nat} {k : Nat} (hc : ∀ x ∈ c, x ≤ 4294967296) : ∀ p ∈ sgP c k, p.1 ≤ 4294967296 ∧ p.2.length = 1 := by
  intro p hp
  obtain ⟨s, hs, rfl⟩ := List.mem_map.1 hp
  refine ⟨?_, rfl⟩
  simp only [List.mem_filter, decide_eq_true_eq] at hs
  simp only
  by_cases q : s < c.length
  · rw [List.getD_eq_getElem?_getD, List.getElem?_eq_getElem q]; exact hc _ (List.getElem_mem _)
  · rw [List.getD_eq_getElem?_getD, List.getElem?_eq_none (by omega)] at hs
    simp at hs
theorem row_succ {n t : Nat} {f : Nat → Nat} (ht : t < n) : ((List.range n).map f).set t (f t + 1) = (List.range n).map fun s => f s + if s = t then 1 else 0 := by
  refine List.ext_getElem (by simp) fun i h1 h2 => ?_
  simp only [List.length_map, List.length_range] at h2
  rw [List.getElem_set]
  simp only [List.getElem_map, List.getElem_range]
  by_cases e : t = i
  · subst e; simp
  · rw [if_neg e, if_neg (by omega)]; rfl
end Go.Proofs.Ytbmppmdklappiaa.Aw
namespace Go.Proofs.Ytbmppmdklappiaa.Aw
open Go
set_option linter.unusedSimpArgs false
set_option linter.unusedVariables false
def lenG (cs : List Int) (most : Int) : AV := if badE cs most ≠ 0 then .tup [.sc (.slice none 0 0), int (badE cs most : Int)] else .tup [.sl false none ((lensB (cs.map Int.toNat) most.toNat).map nA), int 0]
theorem free_lenG {cs : List Int} {most : Int} : (lenG cs most).free = true := by
  unfold lenG
  split
  · rfl
  · simp only [AV.free, AV.free.freeL, free_nA, int, Bool.and_self]
theorem bC_snoc {l : List Bt} {x s : Nat} : bC l ++ [.sc (.int .i64 (x : Int)), .sl false none [nA s]] = bC (l ++ [(x, [s])]) := by rw [← bC_append]; rfl
theorem cntB_le {s B : Nat} : ∀ {L : List Bt}, (∀ x ∈ L, x.2.length ≤ B) → cntB s L ≤ L.length * B
  | [], _ => by simp [cntB_nil]
  | x :: L, h => by
    have h1 := h x (by simp)
    have h2 : x.2.count s ≤ x.2.length := List.count_le_length
    have ih := cntB_le (s := s) (L := L) fun y hy => h y (by simp [hy])
    rw [cntB_cons, List.length_cons, Nat.succ_mul]
    omega
theorem lv_sym {S : List Bt} {P : Nat → Prop} (h : ∀ x ∈ S, ∀ t ∈ x.2, P t) : ∀ (k : Nat), ∀ x ∈ lvB S k, ∀ t ∈ x.2, P t
  | 0 => h
  | k + 1 => fun x hx t ht => by
    rw [lvB, mem_sortB, List.mem_append] at hx
    rcases hx with hx | hx
    · exact h x hx t ht
    · obtain ⟨a, ha, b, hb, rfl⟩ := mem_prs hx
      rcases List.mem_append.1 ht with ht | ht
      · exact lv_sym h k a ha t ht
      · exact lv_sym h k b hb t ht
theorem best_facts {c : List Nat} {q : Nat} (hc : c.length ≤ 320) (hc32 : ∀ x ∈ c, x ≤ 4294967296) (hq : q ≤ 15) : (bestB c q).length ≤ 640 ∧ ∀ x ∈ bestB c q, x.2.length ≤ 16384 ∧ ∀ t ∈ x.2, t < c.length := by
  have hS : ∀ x ∈ sgB c, ∀ t ∈ x.2, t < c.length := fun x hx t ht => by
    obtain ⟨s, hs, rfl⟩ := List.mem_map.1 hx
    simp only [List.mem_singleton] at ht
    subst ht
    exact (mem_us.1 hs).1
  have h1 := sgP_each (c := c) (k := c.length) hc32
  rw [sgP_all] at h1
  have hl : (sgB c).length ≤ c.length := by
    rw [sgB, List.length_map]
    exact Nat.le_trans (List.length_filter_le _ _) (by simp)
  unfold bestB
  split
  · exact ⟨by omega, fun x hx => ⟨by have := (h1 x hx).2; omega, hS x hx⟩⟩
  · have hm := lv_max (S := sortB (sgB c)) (q - 1)
    rw [length_sortB] at hm
    refine ⟨by rw [List.length_take]; omega, fun x hx => ?_⟩
    have hx := List.mem_of_mem_take hx
    have hb := lv_big (S := sortB (sgB c)) (fun p hp => h1 p (mem_sortB.1 hp)) (q - 1) x hx
    have hp2 : 2 ^ (q - 1) ≤ 16384 := Nat.pow_le_pow_right (n := 2) (by omega) (show q - 1 ≤ 14 by omega)
    exact ⟨by omega, lv_sym (S := sortB (sgB c)) (P := fun t => t < c.length) (fun y hy => hS y (mem_sortB.1 hy)) _ x hx⟩
set_option maxHeartbeats 1000000 in
set_option maxRecDepth 100000 in
theorem huff_Lengths_c [Tabs Try.prog] (nl : Bool) (cs : List Int) (most : Int) : Con Try.prog n_huff_Lengths [.sl nl none (cs.map int), int most] (lenG cs most) := by
  refine Con.of' mix Try.func28 rfl Try.ntmps28 e_huff_Lengths r_huff_Lengths (by simp) (by simp only [AV.free, AV.free.freeL, free_zA, int, Bool.and_self]) free_lenG ?_
  unfold s_huff_Lengths
  by_cases c1 : most < 1
  · have d1 := decide_eq_true c1
    have hb : badE cs most = 1 := by rw [badE, if_pos (.inl c1)]
    rw [lenG, hb, if_pos (by simp)]
    repeat (first | refine wA ?_ | refine wB ?_ | refine wC rfl ?_ | refine wD rfl ?_ | refine wE ?_ | refine wF (by omega) ?_ | ((first | refine wG ?_ | refine wH ?_ | refine wI ?_ | refine wJ ?_ | refine wK ?_ | refine wL ?_); simp (disch := omega) only [wP, wZ, undef, UInt8.reduceToNat, Nat.reduceOr, Nat.reduceAnd, Nat.reduceXor, Nat.reduceDiv, if_pos, if_neg, aStore, frz, AV.flat, ↓reduceIte, ne_eq, reduceCtorEq, Int.reduceToNat, Nat.reduceEqDiff, Nat.reduceAdd, Nat.reduceSub, Nat.reduceMul, Int.reduceAdd, Int.reduceMul, Int.reduceSub, Int.reduceLT, Int.reduceLE, Int.reduceEq, Int.reduceNe, Nat.reduceLeDiff, Nat.reduceLT, Int.reduceNeg, Nat.reducePow, Nat.reduceMod, ByteArray.size, d1]))
  have d1 := decide_eq_false c1
  by_cases c2 : 15 < most
  · have d2 := decide_eq_true c2
    have hb : badE cs most = 1 := by rw [badE, if_pos (.inr c2)]
    rw [lenG, hb, if_pos (by simp)]
    repeat (first | refine wA ?_ | refine wB ?_ | refine wC rfl ?_ | refine wD rfl ?_ | refine wE ?_ | refine wF (by omega) ?_ | ((first | refine wG ?_ | refine wH ?_ | refine wI ?_ | refine wJ ?_ | refine wK ?_ | refine wL ?_); simp (disch := omega) only [wP, wZ, undef, UInt8.reduceToNat, Nat.reduceOr, Nat.reduceAnd, Nat.reduceXor, Nat.reduceDiv, if_pos, if_neg, aStore, frz, AV.flat, ↓reduceIte, ne_eq, reduceCtorEq, Int.reduceToNat, Nat.reduceEqDiff, Nat.reduceAdd, Nat.reduceSub, Nat.reduceMul, Int.reduceAdd, Int.reduceMul, Int.reduceSub, Int.reduceLT, Int.reduceLE, Int.reduceEq, Int.reduceNe, Nat.reduceLeDiff, Nat.reduceLT, Int.reduceNeg, Nat.reducePow, Nat.reduceMod, ByteArray.size, d1, d2]))
  have d2 := decide_eq_false c2
  by_cases c3 : 320 < cs.length
  · have d3 : decide ((320 : Int) < (cs.length : Int)) = true := decide_eq_true (by omega)
    have hb : badE cs most = 4 := by rw [badE, if_neg (by omega), if_pos c3]
    rw [lenG, hb, if_pos (by simp)]
    repeat (first | refine wA ?_ | refine wB ?_ | refine wC rfl ?_ | refine wD rfl ?_ | refine wE ?_ | refine wF (by omega) ?_ | ((first | refine wG ?_ | refine wH ?_ | refine wI ?_ | refine wJ ?_ | refine wK ?_ | refine wL ?_); simp (disch := omega) only [wP, wZ, undef, UInt8.reduceToNat, Nat.reduceOr, Nat.reduceAnd, Nat.reduceXor, Nat.reduceDiv, if_pos, if_neg, aStore, frz, AV.flat, ↓reduceIte, ne_eq, reduceCtorEq, Int.reduceToNat, Nat.reduceEqDiff, Nat.reduceAdd, Nat.reduceSub, Nat.reduceMul, Int.reduceAdd, Int.reduceMul, Int.reduceSub, Int.reduceLT, Int.reduceLE, Int.reduceEq, Int.reduceNe, Nat.reduceLeDiff, Nat.reduceLT, Int.reduceNeg, Nat.reducePow, Nat.reduceMod, ByteArray.size, d1, d2, d3, List.length_map]))
  have d3 : decide ((320 : Int) < (cs.length : Int)) = false := decide_eq_false (by omega)
  obtain ⟨q, rfl⟩ : ∃ q : Nat, most = (q : Int) := ⟨most.toNat, by omega⟩
  have hbE : badE cs (q : Int) = if cs.any bdC = true then 1 else if 2 ^ q < usedC cs then 4 else 0 := by rw [badE, if_neg (by omega), if_neg c3, Int.toNat_natCast]
  obtain ⟨G, hG⟩ : ∃ G, G = lenG cs (q : Int) := ⟨_, rfl⟩
  have hG1 : cs.any bdC = true → G = .tup [.sc (.slice none 0 0), int 1] := fun h => by rw [hG, lenG, hbE, if_pos h, if_pos (by simp)]; rfl
  rw [← hG]
  obtain ⟨c, hc⟩ : ∃ c, c = cs.map Int.toNat := ⟨_, rfl⟩
  obtain ⟨M, hM⟩ : ∃ M, M = cs.length := ⟨_, rfl⟩
  rw [← hM] at d3 c3
  iterate 14 (first | refine wA ?_ | refine wB ?_ | refine wC rfl ?_ | refine wD rfl ?_ | refine wE ?_ | refine wF (by omega) ?_ | ((first | refine wG ?_ | refine wH ?_ | refine wI ?_ | refine wJ ?_ | refine wK ?_ | refine wL ?_); simp (disch := omega) only [wP, wZ, undef, UInt8.reduceToNat, Nat.reduceOr, Nat.reduceAnd, Nat.reduceXor, Nat.reduceDiv, if_pos, if_neg, aStore, frz, AV.flat, ↓reduceIte, ne_eq, reduceCtorEq, Int.reduceToNat, Nat.reduceEqDiff, Nat.reduceAdd, Nat.reduceSub, Nat.reduceMul, Int.reduceAdd, Int.reduceMul, Int.reduceSub, Int.reduceLT, Int.reduceLE, Int.reduceEq, Int.reduceNe, Nat.reduceLeDiff, Nat.reduceLT, Int.reduceNeg, Nat.reducePow, Nat.reduceMod, ByteArray.size, d1, d2, d3, List.length_map, ← hM]))
  refine SWp.adopt 6 (some 2) (by simp (disch := omega) only [wP, wZ, undef, UInt8.reduceToNat, Nat.reduceOr, Nat.reduceAnd, Nat.reduceXor, Nat.reduceDiv, if_pos, if_neg, aStore, frz, AV.flat, ↓reduceIte, ne_eq, reduceCtorEq, Int.reduceToNat, Nat.reduceEqDiff, Nat.reduceAdd, Nat.reduceSub, Nat.reduceMul, Int.reduceAdd, Int.reduceMul, Int.reduceSub, Int.reduceLT, Int.reduceLE, Int.reduceEq, Int.reduceNe, Nat.reduceLeDiff, Nat.reduceLT, Int.reduceNeg, Nat.reducePow, Nat.reduceMod, ByteArray.size]) ?_
  repeat (first | refine wA ?_ | refine wB ?_ | refine wC rfl ?_ | refine wD rfl ?_ | refine wE ?_ | refine wF (by omega) ?_ | ((first | refine wG ?_ | refine wH ?_ | refine wI ?_ | refine wJ ?_ | refine wK ?_ | refine wL ?_); simp (disch := omega) only [wP, wZ, undef, UInt8.reduceToNat, Nat.reduceOr, Nat.reduceAnd, Nat.reduceXor, Nat.reduceDiv, if_pos, if_neg, aStore, frz, AV.flat, ↓reduceIte, ne_eq, reduceCtorEq, Int.reduceToNat, Nat.reduceEqDiff, Nat.reduceAdd, Nat.reduceSub, Nat.reduceMul, Int.reduceAdd, Int.reduceMul, Int.reduceSub, Int.reduceLT, Int.reduceLE, Int.reduceEq, Int.reduceNe, Nat.reduceLeDiff, Nat.reduceLT, Int.reduceNeg, Nat.reducePow, Nat.reduceMod, ByteArray.size, List.length_map, ← hM]))
  refine SWp.loop (α := Nat × Nat × Nat) (fun x => mk 78 x.2.2 [(0, .sl nl none (cs.map int)), (1, int (q : Int)), (6, .own 6 x.2.1 (some 2) 0 (usedC (cs.take x.1))), (23, .sl nl none (cs.map int)), (24, int (M : Int)), (25, int (x.1 : Int))] [(6, x.2.1, .row (nl0 (usedC (cs.take x.1))) (bC (sgP c x.1)))])
    (fun x => x.1 ≤ M ∧ (cs.take x.1).any bdC = false ∧ x.2.2 ≤ 1 + x.1) (fun x => M - x.1) (0, 0, 1) ⟨Nat.zero_le _, by simp, by simp⟩ (le_mk rfl ?_ ?_ ?_) ?_
  · exact Nat.le_refl _
  · simp (disch := omega) only [wP, wZ, undef, UInt8.reduceToNat, Nat.reduceOr, Nat.reduceAnd, Nat.reduceXor, Nat.reduceDiv, if_pos, if_neg, aStore, frz, AV.flat, ↓reduceIte, ne_eq, reduceCtorEq, Int.reduceToNat, Nat.reduceEqDiff, Nat.reduceAdd, Nat.reduceSub, Nat.reduceMul, Int.reduceAdd, Int.reduceMul, Int.reduceSub, Int.reduceLT, Int.reduceLE, Int.reduceEq, Int.reduceNe, Nat.reduceLeDiff, Nat.reduceLT, Int.reduceNeg, Nat.reducePow, Nat.reduceMod, ByteArray.size, show usedC (cs.take 0) = 0 from rfl, show usedC [] = 0 from rfl]
    try rfl
  · simp (disch := omega) only [wP, wZ, undef, UInt8.reduceToNat, Nat.reduceOr, Nat.reduceAnd, Nat.reduceXor, Nat.reduceDiv, if_pos, if_neg, aStore, frz, AV.flat, ↓reduceIte, ne_eq, reduceCtorEq, Int.reduceToNat, Nat.reduceEqDiff, Nat.reduceAdd, Nat.reduceSub, Nat.reduceMul, Int.reduceAdd, Int.reduceMul, Int.reduceSub, Int.reduceLT, Int.reduceLE, Int.reduceEq, Int.reduceNe, Nat.reduceLeDiff, Nat.reduceLT, Int.reduceNeg, Nat.reducePow, Nat.reduceMod, ByteArray.size, show usedC (cs.take 0) = 0 from rfl, show usedC [] = 0 from rfl, nl0_zero]
    try rfl
  rintro ⟨k, g, gc⟩ ⟨hk, hany, hgc⟩ -
  simp only at hk hany hgc
  obtain ⟨u, hu⟩ : ∃ u, u = usedC (cs.take k) := ⟨_, rfl⟩
  have hul : u ≤ k := by rw [hu]; exact Nat.le_trans usedC_le (by rw [List.length_take]; omega)
  have hsl : (sgP c k).length = u := by rw [hc, hu]; exact sgP_len (by omega)
  have hbl : (bC (sgP c k)).length = u * 2 := by rw [length_bC, hsl]
  simp only [← hu]
  by_cases ck : k < M
  · have dk : decide ((k : Int) < (M : Int)) = true := decide_eq_true (by omega)
    have ck' : k < cs.length := by omega
    obtain ⟨x, hx⟩ : ∃ x, x = cs[k] := ⟨_, rfl⟩
    have hg : (cs.map int).getD k .junk = .sc (.int .i64 x) := by rw [hx]; simp [List.getD, ck', int]
    have hcg : c.getD k 0 = x.toNat := by rw [hc, hx]; simp [List.getD, ck']
    have hus := usedC_snoc ck'
    rw [← hu, ← hx] at hus
    have htk : (cs.take (k + 1)).any bdC = bdC x := by rw [List.take_succ_eq_append_getElem ck', List.any_append, hany, ← hx]; simp
    have hmem : bdC x = true → cs.any bdC = true := fun h => by
      rw [List.any_eq_true]
      exact ⟨x, by rw [hx]; exact List.getElem_mem _, h⟩
    by_cases c4 : x < 0
    · have d4 := decide_eq_true c4
      rw [hG1 (hmem (by unfold bdC; rw [d4]; rfl))]
      repeat (first | refine wA ?_ | refine wB ?_ | refine wC rfl ?_ | refine wD rfl ?_ | refine wE ?_ | refine wF (by omega) ?_ | ((first | refine wG ?_ | refine wH ?_ | refine wI ?_ | refine wJ ?_ | refine wK ?_ | refine wL ?_); simp (disch := omega) only [wP, wZ, undef, UInt8.reduceToNat, Nat.reduceOr, Nat.reduceAnd, Nat.reduceXor, Nat.reduceDiv, if_pos, if_neg, aStore, frz, AV.flat, ↓reduceIte, ne_eq, reduceCtorEq, Int.reduceToNat, Nat.reduceEqDiff, Nat.reduceAdd, Nat.reduceSub, Nat.reduceMul, Int.reduceAdd, Int.reduceMul, Int.reduceSub, Int.reduceLT, Int.reduceLE, Int.reduceEq, Int.reduceNe, Nat.reduceLeDiff, Nat.reduceLT, Int.reduceNeg, Nat.reducePow, Nat.reduceMod, ByteArray.size, dk, List.length_map, ← hM, hg, d4]))
    have d4 := decide_eq_false c4
    by_cases c5 : 4294967296 < x
    · have d5 := decide_eq_true c5
      rw [hG1 (hmem (by unfold bdC; rw [d5, Bool.or_true]))]
      repeat (first | refine wA ?_ | refine wB ?_ | refine wC rfl ?_ | refine wD rfl ?_ | refine wE ?_ | refine wF (by omega) ?_ | ((first | refine wG ?_ | refine wH ?_ | refine wI ?_ | refine wJ ?_ | refine wK ?_ | refine wL ?_); simp (disch := omega) only [wP, wZ, undef, UInt8.reduceToNat, Nat.reduceOr, Nat.reduceAnd, Nat.reduceXor, Nat.reduceDiv, if_pos, if_neg, aStore, frz, AV.flat, ↓reduceIte, ne_eq, reduceCtorEq, Int.reduceToNat, Nat.reduceEqDiff, Nat.reduceAdd, Nat.reduceSub, Nat.reduceMul, Int.reduceAdd, Int.reduceMul, Int.reduceSub, Int.reduceLT, Int.reduceLE, Int.reduceEq, Int.reduceNe, Nat.reduceLeDiff, Nat.reduceLT, Int.reduceNeg, Nat.reducePow, Nat.reduceMod, ByteArray.size, dk, List.length_map, ← hM, hg, d4, d5]))
    have d5 := decide_eq_false c5
    have hb : bdC x = false := by unfold bdC; rw [d4, d5]; rfl
    by_cases c6 : 0 < x
    · have d6 := decide_eq_true c6
      rw [if_pos c6] at hus
      have hsg := sgP_pos (c := c) (k := k) (by rw [hcg]; omega)
      obtain ⟨z, rfl⟩ : ∃ z : Nat, x = (z : Int) := ⟨x.toNat, by omega⟩
      rw [hcg, Int.toNat_natCast] at hsg
      have hcells : bC (sgP c k) ++ [.sc (.int .i64 (z : Int)), .sl false none [.sc (.int .i64 (k : Int))]] = bC (sgP c (k + 1)) := by rw [hsg]; exact bC_snoc
      have hfl : List.flatMap (fun x => (cellsA x).getD []) [AV.agg [AV.sc (Value.int IntKind.i64 (z : Int)), AV.sl false none [AV.sc (.int .i64 (k : Int))]]] = [.sc (.int .i64 (z : Int)), .sl false none [.sc (.int .i64 (k : Int))]] := rfl
      repeat (first | refine wA ?_ | refine wB ?_ | refine wC rfl ?_ | refine wD rfl ?_ | refine wE ?_ | refine wF (by omega) ?_ | ((first | refine wG ?_ | refine wH ?_ | refine wI ?_ | refine wJ ?_ | refine wK ?_ | refine wL ?_); simp (disch := omega) only [wP, wZ, undef, UInt8.reduceToNat, Nat.reduceOr, Nat.reduceAnd, Nat.reduceXor, Nat.reduceDiv, if_pos, if_neg, aStore, frz, AV.flat, ↓reduceIte, ne_eq, reduceCtorEq, Int.reduceToNat, Nat.reduceEqDiff, Nat.reduceAdd, Nat.reduceSub, Nat.reduceMul, Int.reduceAdd, Int.reduceMul, Int.reduceSub, Int.reduceLT, Int.reduceLE, Int.reduceEq, Int.reduceNe, Nat.reduceLeDiff, Nat.reduceLT, Int.reduceNeg, Nat.reducePow, Nat.reduceMod, ByteArray.size, dk, List.length_map, ← hM, hg, d4, d5, d6]))
      refine ⟨⟨_, rfl, rfl⟩, ⟨fun w hw => ⟨_, List.mem_singleton.1 hw⟩, hbl.symm, by omega, by omega⟩, ?_⟩
      repeat (first | refine wA ?_ | refine wB ?_ | refine wC rfl ?_ | refine wD rfl ?_ | refine wE ?_ | refine wF (by omega) ?_ | ((first | refine wG ?_ | refine wH ?_ | refine wI ?_ | refine wJ ?_ | refine wK ?_ | refine wL ?_); simp (disch := omega) only [wP, wZ, undef, UInt8.reduceToNat, Nat.reduceOr, Nat.reduceAnd, Nat.reduceXor, Nat.reduceDiv, if_pos, if_neg, aStore, frz, AV.flat, ↓reduceIte, ne_eq, reduceCtorEq, Int.reduceToNat, Nat.reduceEqDiff, Nat.reduceAdd, Nat.reduceSub, Nat.reduceMul, Int.reduceAdd, Int.reduceMul, Int.reduceSub, Int.reduceLT, Int.reduceLE, Int.reduceEq, Int.reduceNe, Nat.reduceLeDiff, Nat.reduceLT, Int.reduceNeg, Nat.reducePow, Nat.reduceMod, ByteArray.size, hfl, hcells]))
      refine At.of (k + 1, gc, gc + 1) ⟨by simp only; omega, by simp only; rw [htk, hb], by simp only; omega⟩ (by simp only; omega) rfl rfl (Nat.le_refl _) ?_ ?_
      · simp (disch := omega) only [wP, wZ, undef, UInt8.reduceToNat, Nat.reduceOr, Nat.reduceAnd, Nat.reduceXor, Nat.reduceDiv, if_pos, if_neg, aStore, frz, AV.flat, ↓reduceIte, ne_eq, reduceCtorEq, Int.reduceToNat, Nat.reduceEqDiff, Nat.reduceAdd, Nat.reduceSub, Nat.reduceMul, Int.reduceAdd, Int.reduceMul, Int.reduceSub, Int.reduceLT, Int.reduceLE, Int.reduceEq, Int.reduceNe, Nat.reduceLeDiff, Nat.reduceLT, Int.reduceNeg, Nat.reducePow, Nat.reduceMod, ByteArray.size, hus]
        try omega
      · simp (disch := omega) only [wP, wZ, undef, UInt8.reduceToNat, Nat.reduceOr, Nat.reduceAnd, Nat.reduceXor, Nat.reduceDiv, if_pos, if_neg, aStore, frz, AV.flat, ↓reduceIte, ne_eq, reduceCtorEq, Int.reduceToNat, Nat.reduceEqDiff, Nat.reduceAdd, Nat.reduceSub, Nat.reduceMul, Int.reduceAdd, Int.reduceMul, Int.reduceSub, Int.reduceLT, Int.reduceLE, Int.reduceEq, Int.reduceNe, Nat.reduceLeDiff, Nat.reduceLT, Int.reduceNeg, Nat.reducePow, Nat.reduceMod, ByteArray.size, hus, nl0_succ]
    · have d6 := decide_eq_false c6
      rw [if_neg c6, Nat.add_zero] at hus
      have hsg := sgP_not (c := c) (k := k) (by rw [hcg]; omega)
      repeat (first | refine wA ?_ | refine wB ?_ | refine wC rfl ?_ | refine wD rfl ?_ | refine wE ?_ | refine wF (by omega) ?_ | ((first | refine wG ?_ | refine wH ?_ | refine wI ?_ | refine wJ ?_ | refine wK ?_ | refine wL ?_); simp (disch := omega) only [wP, wZ, undef, UInt8.reduceToNat, Nat.reduceOr, Nat.reduceAnd, Nat.reduceXor, Nat.reduceDiv, if_pos, if_neg, aStore, frz, AV.flat, ↓reduceIte, ne_eq, reduceCtorEq, Int.reduceToNat, Nat.reduceEqDiff, Nat.reduceAdd, Nat.reduceSub, Nat.reduceMul, Int.reduceAdd, Int.reduceMul, Int.reduceSub, Int.reduceLT, Int.reduceLE, Int.reduceEq, Int.reduceNe, Nat.reduceLeDiff, Nat.reduceLT, Int.reduceNeg, Nat.reducePow, Nat.reduceMod, ByteArray.size, dk, List.length_map, ← hM, hg, d4, d5, d6]))
      refine At.of (k + 1, g, gc) ⟨by simp only; omega, by simp only; rw [htk, hb], by simp only; omega⟩ (by simp only; omega) rfl rfl (Nat.le_refl _) ?_ ?_
      iterate 2 (case _ => simp (disch := omega) only [wP, wZ, undef, UInt8.reduceToNat, Nat.reduceOr, Nat.reduceAnd, Nat.reduceXor, Nat.reduceDiv, if_pos, if_neg, aStore, frz, AV.flat, ↓reduceIte, ne_eq, reduceCtorEq, Int.reduceToNat, Nat.reduceEqDiff, Nat.reduceAdd, Nat.reduceSub, Nat.reduceMul, Int.reduceAdd, Int.reduceMul, Int.reduceSub, Int.reduceLT, Int.reduceLE, Int.reduceEq, Int.reduceNe, Nat.reduceLeDiff, Nat.reduceLT, Int.reduceNeg, Nat.reducePow, Nat.reduceMod, ByteArray.size, hus, hsg])
  · have dk : decide ((k : Int) < (M : Int)) = false := decide_eq_false (by omega)
    obtain rfl : k = M := by omega
    rw [hM, List.take_length] at hany hu
    have hq : 2 ^ q ≤ 32768 := Nat.pow_le_pow_right (n := 2) (by omega) (show q ≤ 15 by omega)
    by_cases c7 : 2 ^ q < u
    · have d7 : decide (((1 * 2 ^ q : Nat) : Int) < (u : Int)) = true := decide_eq_true (Int.ofNat_lt.2 (by omega))
      have hGe : G = .tup [.sc (.slice none 0 0), int 4] := by
        have hb : badE cs (q : Int) = 4 := by rw [hbE, if_neg (by rw [hany]; simp), if_pos (by rw [← hu]; exact c7)]
        rw [hG, lenG, hb, if_pos (by simp)]; rfl
      rw [hGe]
      repeat (first | refine wA ?_ | refine wB ?_ | refine wC rfl ?_ | refine wD rfl ?_ | refine wE ?_ | refine wF (by omega) ?_ | ((first | refine wG ?_ | refine wH ?_ | refine wI ?_ | refine wJ ?_ | refine wK ?_ | refine wL ?_); simp (disch := omega) only [wP, wZ, undef, UInt8.reduceToNat, Nat.reduceOr, Nat.reduceAnd, Nat.reduceXor, Nat.reduceDiv, if_pos, if_neg, aStore, frz, AV.flat, ↓reduceIte, ne_eq, reduceCtorEq, Int.reduceToNat, Nat.reduceEqDiff, Nat.reduceAdd, Nat.reduceSub, Nat.reduceMul, Int.reduceAdd, Int.reduceMul, Int.reduceSub, Int.reduceLT, Int.reduceLE, Int.reduceEq, Int.reduceNe, Nat.reduceLeDiff, Nat.reduceLT, Int.reduceNeg, Nat.reducePow, Nat.reduceMod, ByteArray.size, dk, List.length_map, ← hM, d7]))
    · have d7 : decide (((1 * 2 ^ q : Nat) : Int) < (u : Int)) = false := decide_eq_false (fun h => c7 (by have := Int.ofNat_lt.1 h; omega))
      have hGe : G = .tup [.sl false none ((lensB c q).map nA), int 0] := by
        have hb : badE cs (q : Int) = 0 := by rw [hbE, if_neg (by rw [hany]; simp), if_neg (by rw [← hu]; exact c7)]
        rw [hG, lenG, hb, if_neg (by simp), Int.toNat_natCast, ← hc]
      rw [hGe]
      have hcl : c.length = k := by rw [hc, List.length_map, hM]
      have hc32 : ∀ x ∈ c, x ≤ 4294967296 := fun x hx => by
        rw [hc] at hx
        obtain ⟨y, hy, rfl⟩ := List.mem_map.1 hx
        rw [List.any_eq_false] at hany
        have := hany y hy
        simp only [bdC, Bool.or_eq_true, decide_eq_true_eq] at this
        omega
      have hch := huff_cheapest_h (sgP c k) u q hsl.symm (by omega) (by omega) (by omega) (by omega) (sgP_each hc32)
      have hbs : bestL (sgP c k) q = bestB c q := by rw [← hcl]; rfl
      rw [hbs] at hch
      repeat (first | refine wA ?_ | refine wB ?_ | refine wC rfl ?_ | refine wD rfl ?_ | refine wE ?_ | refine wF (by omega) ?_ | ((first | refine wG ?_ | refine wH ?_ | refine wI ?_ | refine wJ ?_ | refine wK ?_ | refine wL ?_); simp (disch := omega) only [wP, wZ, undef, UInt8.reduceToNat, Nat.reduceOr, Nat.reduceAnd, Nat.reduceXor, Nat.reduceDiv, if_pos, if_neg, aStore, frz, AV.flat, ↓reduceIte, ne_eq, reduceCtorEq, Int.reduceToNat, Nat.reduceEqDiff, Nat.reduceAdd, Nat.reduceSub, Nat.reduceMul, Int.reduceAdd, Int.reduceMul, Int.reduceSub, Int.reduceLT, Int.reduceLE, Int.reduceEq, Int.reduceNe, Nat.reduceLeDiff, Nat.reduceLT, Int.reduceNeg, Nat.reducePow, Nat.reduceMod, ByteArray.size, dk, List.length_map, ← hM, d7]))
      refine goC_h [(6, g)] 1000 hch (by simp) (by simp) ?_ ?_ ?_
      iterate 2 (case _ => simp (disch := omega) only [wP, wZ, undef, UInt8.reduceToNat, Nat.reduceOr, Nat.reduceAnd, Nat.reduceXor, Nat.reduceDiv, if_pos, if_neg, aStore, frz, AV.flat, ↓reduceIte, ne_eq, reduceCtorEq, Int.reduceToNat, Nat.reduceEqDiff, Nat.reduceAdd, Nat.reduceSub, Nat.reduceMul, Int.reduceAdd, Int.reduceMul, Int.reduceSub, Int.reduceLT, Int.reduceLE, Int.reduceEq, Int.reduceNe, Nat.reduceLeDiff, Nat.reduceLT, Int.reduceNeg, Nat.reducePow, Nat.reduceMod, ByteArray.size, renL_bC])
      obtain ⟨hBn, hBe⟩ := best_facts (c := c) (q := q) (by omega) hc32 (by omega)
      rw [hcl] at hBe
      have hlens : lensB c q = (List.range k).map fun s => cntB s (bestB c q) := by rw [lensB, hcl]
      rw [hlens]
      clear hch hbs hlens
      obtain ⟨Bs, hBs⟩ : ∃ Bs, Bs = bestB c q := ⟨_, rfl⟩
      rw [← hBs] at hBn hBe
      rw [← hBs]
      repeat (first | refine wA ?_ | refine wB ?_ | refine wC rfl ?_ | refine wD rfl ?_ | refine wE ?_ | refine wF (by omega) ?_ | ((first | refine wG ?_ | refine wH ?_ | refine wI ?_ | refine wJ ?_ | refine wK ?_ | refine wL ?_); simp (disch := omega) only [wP, wZ, undef, UInt8.reduceToNat, Nat.reduceOr, Nat.reduceAnd, Nat.reduceXor, Nat.reduceDiv, if_pos, if_neg, aStore, frz, AV.flat, ↓reduceIte, ne_eq, reduceCtorEq, Int.reduceToNat, Nat.reduceEqDiff, Nat.reduceAdd, Nat.reduceSub, Nat.reduceMul, Int.reduceAdd, Int.reduceMul, Int.reduceSub, Int.reduceLT, Int.reduceLE, Int.reduceEq, Int.reduceNe, Nat.reduceLeDiff, Nat.reduceLT, Int.reduceNeg, Nat.reducePow, Nat.reduceMod, ByteArray.size, renL_bA, List.length_map]))
      refine SWp.loop (α := Nat × List Nat) (fun x => mk 78 (gc + 1 + KC + x.1) [(9, .own 53 gc none 0 k), (56, .sl (nl0 u) (some 2) (Bs.map bA)), (57, int (Bs.length : Int)), (58, int (x.1 : Int))] [(53, gc, .row false (x.2.map nA))])
        (fun x => x.1 ≤ Bs.length ∧ x.2 = (List.range k).map fun s => cntB s (Bs.take x.1)) (fun x => Bs.length - x.1) (0, List.replicate k 0) ⟨Nat.zero_le _, ?_⟩ (le_mk rfl ?_ ?_ ?_) ?_
      · simp only [List.take_zero, cntB_nil]
        refine List.ext_getElem (by simp) fun i h1 h2 => by simp
      · simp only; omega
      · simp (disch := omega) only [wP, wZ, undef, UInt8.reduceToNat, Nat.reduceOr, Nat.reduceAnd, Nat.reduceXor, Nat.reduceDiv, if_pos, if_neg, aStore, frz, AV.flat, ↓reduceIte, ne_eq, reduceCtorEq, Int.reduceToNat, Nat.reduceEqDiff, Nat.reduceAdd, Nat.reduceSub, Nat.reduceMul, Int.reduceAdd, Int.reduceMul, Int.reduceSub, Int.reduceLT, Int.reduceLE, Int.reduceEq, Int.reduceNe, Nat.reduceLeDiff, Nat.reduceLT, Int.reduceNeg, Nat.reducePow, Nat.reduceMod, ByteArray.size]
      · simp (disch := omega) only [wP, wZ, undef, UInt8.reduceToNat, Nat.reduceOr, Nat.reduceAnd, Nat.reduceXor, Nat.reduceDiv, if_pos, if_neg, aStore, frz, AV.flat, ↓reduceIte, ne_eq, reduceCtorEq, Int.reduceToNat, Nat.reduceEqDiff, Nat.reduceAdd, Nat.reduceSub, Nat.reduceMul, Int.reduceAdd, Int.reduceMul, Int.reduceSub, Int.reduceLT, Int.reduceLE, Int.reduceEq, Int.reduceNe, Nat.reduceLeDiff, Nat.reduceLT, Int.reduceNeg, Nat.reducePow, Nat.reduceMod, ByteArray.size]
        simp
        exact .inr rfl
      rintro ⟨j, l⟩ ⟨hj, hlf⟩ -
      simp only at hj hlf
      have hll : l.length = k := by rw [hlf]; simp
      by_cases cj : j < Bs.length
      · have dj : decide ((j : Int) < (Bs.length : Int)) = true := decide_eq_true (by omega)
        obtain ⟨p, hp⟩ : ∃ p, p = Bs.getD j (0, []) := ⟨_, rfl⟩
        have hpg : p = Bs[j] := by rw [hp]; simp [List.getD, cj]
        have hpm : p ∈ Bs := by rw [hpg]; exact List.getElem_mem _
        obtain ⟨hp1, hp2⟩ := hBe p hpm
        have eb : (Bs.map bA).getD j .junk = .agg [.sc (.int .i64 (p.1 : Int)), .sl false none (p.2.map nA)] := by rw [hp]; exact getD_bA cj
        have htj : Bs.take (j + 1) = Bs.take j ++ [p] := by rw [List.take_succ_eq_append_getElem cj, hpg]
        have hcb : ∀ s, cntB s (Bs.take j) ≤ 640 * 16384 := fun s => Nat.le_trans (cntB_le (B := 16384) fun x hx => (hBe x (List.mem_of_mem_take hx)).1) (Nat.mul_le_mul_right _ (by rw [List.length_take]; omega))
        repeat (first | refine wA ?_ | refine wB ?_ | refine wC rfl ?_ | refine wD rfl ?_ | refine wE ?_ | refine wF (by omega) ?_ | ((first | refine wG ?_ | refine wH ?_ | refine wI ?_ | refine wJ ?_ | refine wK ?_ | refine wL ?_); simp (disch := omega) only [wP, wZ, undef, UInt8.reduceToNat, Nat.reduceOr, Nat.reduceAnd, Nat.reduceXor, Nat.reduceDiv, if_pos, if_neg, aStore, frz, AV.flat, ↓reduceIte, ne_eq, reduceCtorEq, Int.reduceToNat, Nat.reduceEqDiff, Nat.reduceAdd, Nat.reduceSub, Nat.reduceMul, Int.reduceAdd, Int.reduceMul, Int.reduceSub, Int.reduceLT, Int.reduceLE, Int.reduceEq, Int.reduceNe, Nat.reduceLeDiff, Nat.reduceLT, Int.reduceNeg, Nat.reducePow, Nat.reduceMod, ByteArray.size, dj, eb, List.length_map]))
        refine SWp.loop (α := Nat × List Nat) (fun x => mk 78 (gc + 1 + KC + j + 1) [(9, .own 53 gc none 0 k), (56, .sl (nl0 u) (some 2) (Bs.map bA)), (57, int (Bs.length : Int)), (58, int (j : Int)), (63, .sl false none (p.2.map nA)), (64, int (p.2.length : Int)), (65, int (x.1 : Int))] [(53, gc, .row false (x.2.map nA))])
          (fun x => x.1 ≤ p.2.length ∧ x.2 = (List.range k).map fun s => cntB s (Bs.take j) + (p.2.take x.1).count s) (fun x => p.2.length - x.1) (0, l) ⟨Nat.zero_le _, by simp [hlf]⟩ (le_mk rfl ?_ ?_ ?_) ?_
        · exact Nat.le_refl _
        iterate 2 (case _ => simp (disch := omega) only [wP, wZ, undef, UInt8.reduceToNat, Nat.reduceOr, Nat.reduceAnd, Nat.reduceXor, Nat.reduceDiv, if_pos, if_neg, aStore, frz, AV.flat, ↓reduceIte, ne_eq, reduceCtorEq, Int.reduceToNat, Nat.reduceEqDiff, Nat.reduceAdd, Nat.reduceSub, Nat.reduceMul, Int.reduceAdd, Int.reduceMul, Int.reduceSub, Int.reduceLT, Int.reduceLE, Int.reduceEq, Int.reduceNe, Nat.reduceLeDiff, Nat.reduceLT, Int.reduceNeg, Nat.reducePow, Nat.reduceMod, ByteArray.size])
        rintro ⟨i, m⟩ ⟨hi, hmf⟩ -
        simp only at hi hmf
        have hml : m.length = k := by rw [hmf]; simp
        by_cases ci : i < p.2.length
        · have di : decide ((i : Int) < (p.2.length : Int)) = true := decide_eq_true (by omega)
          obtain ⟨t, ht⟩ : ∃ t, t = p.2.getD i 0 := ⟨_, rfl⟩
          have htg : t = p.2[i] := by rw [ht]; simp [List.getD, ci]
          have htk : t < k := hp2 t (by rw [htg]; exact List.getElem_mem _)
          have e1 : (p.2.map nA).getD i .junk = .sc (.int .i64 (t : Int)) := by rw [ht]; exact getD_nA ci
          obtain ⟨v, hv⟩ : ∃ v, v = m.getD t 0 := ⟨_, rfl⟩
          have e2 : (m.map nA).getD t .junk = .sc (.int .i64 (v : Int)) := by rw [hv]; exact getD_nA (by omega)
          have hvf : v = cntB t (Bs.take j) + (p.2.take i).count t := by rw [hv, hmf]; simp [List.getD, htk]
          have hvb : v ≤ 20000000 := by
            have a := hcb t
            have b : (p.2.take i).count t ≤ (p.2.take i).length := List.count_le_length
            rw [List.length_take] at b
            omega
          obtain ⟨v1, hv1⟩ : ∃ v1, v1 = v + 1 := ⟨_, rfl⟩
          have ev : (v : Int) + 1 = (v1 : Int) := by omega
          have hsp := splice_nA (l := m) (k := t) (x := v1) (by omega)
          have hnx : m.set t v1 = (List.range k).map fun s => cntB s (Bs.take j) + (p.2.take (i + 1)).count s := by
            rw [hmf, hv1, hvf, row_succ (f := fun s => cntB s (Bs.take j) + (p.2.take i).count s) htk]
            refine List.map_congr_left fun s _ => ?_
            rw [List.take_succ_eq_append_getElem ci, List.count_append, ← htg, List.count_singleton]
            simp only [beq_iff_eq]
            by_cases e : s = t
            · subst e; simp; omega
            · rw [if_neg e, if_neg (by omega)]; omega
          repeat (first | refine wA ?_ | refine wB ?_ | refine wC rfl ?_ | refine wD rfl ?_ | refine wE ?_ | refine wF (by omega) ?_ | ((first | refine wG ?_ | refine wH ?_ | refine wI ?_ | refine wJ ?_ | refine wK ?_ | refine wL ?_); simp (disch := omega) only [wP, wZ, undef, UInt8.reduceToNat, Nat.reduceOr, Nat.reduceAnd, Nat.reduceXor, Nat.reduceDiv, if_pos, if_neg, aStore, frz, AV.flat, ↓reduceIte, ne_eq, reduceCtorEq, Int.reduceToNat, Nat.reduceEqDiff, Nat.reduceAdd, Nat.reduceSub, Nat.reduceMul, Int.reduceAdd, Int.reduceMul, Int.reduceSub, Int.reduceLT, Int.reduceLE, Int.reduceEq, Int.reduceNe, Nat.reduceLeDiff, Nat.reduceLT, Int.reduceNeg, Nat.reducePow, Nat.reduceMod, ByteArray.size, di, e1, e2, ev, hml, List.length_map, hsp]))
          refine At.of (i + 1, m.set t v1) ⟨by simp only; omega, hnx⟩ (by simp only; omega) rfl rfl (Nat.le_refl _) ?_ ?_
          · simp (disch := omega) only [wP, wZ, undef, UInt8.reduceToNat, Nat.reduceOr, Nat.reduceAnd, Nat.reduceXor, Nat.reduceDiv, if_pos, if_neg, aStore, frz, AV.flat, ↓reduceIte, ne_eq, reduceCtorEq, Int.reduceToNat, Nat.reduceEqDiff, Nat.reduceAdd, Nat.reduceSub, Nat.reduceMul, Int.reduceAdd, Int.reduceMul, Int.reduceSub, Int.reduceLT, Int.reduceLE, Int.reduceEq, Int.reduceNe, Nat.reduceLeDiff, Nat.reduceLT, Int.reduceNeg, Nat.reducePow, Nat.reduceMod, ByteArray.size]
          · simp (disch := omega) only [wP, wZ, undef, UInt8.reduceToNat, Nat.reduceOr, Nat.reduceAnd, Nat.reduceXor, Nat.reduceDiv, if_pos, if_neg, aStore, frz, AV.flat, ↓reduceIte, ne_eq, reduceCtorEq, Int.reduceToNat, Nat.reduceEqDiff, Nat.reduceAdd, Nat.reduceSub, Nat.reduceMul, Int.reduceAdd, Int.reduceMul, Int.reduceSub, Int.reduceLT, Int.reduceLE, Int.reduceEq, Int.reduceNe, Nat.reduceLeDiff, Nat.reduceLT, Int.reduceNeg, Nat.reducePow, Nat.reduceMod, ByteArray.size]
            rw [take_nA, drop_nA]
            exact hsp
        · have di : decide ((i : Int) < (p.2.length : Int)) = false := decide_eq_false (by omega)
          repeat (first | refine wA ?_ | refine wB ?_ | refine wC rfl ?_ | refine wD rfl ?_ | refine wE ?_ | refine wF (by omega) ?_ | ((first | refine wG ?_ | refine wH ?_ | refine wI ?_ | refine wJ ?_ | refine wK ?_ | refine wL ?_); simp (disch := omega) only [wP, wZ, undef, UInt8.reduceToNat, Nat.reduceOr, Nat.reduceAnd, Nat.reduceXor, Nat.reduceDiv, if_pos, if_neg, aStore, frz, AV.flat, ↓reduceIte, ne_eq, reduceCtorEq, Int.reduceToNat, Nat.reduceEqDiff, Nat.reduceAdd, Nat.reduceSub, Nat.reduceMul, Int.reduceAdd, Int.reduceMul, Int.reduceSub, Int.reduceLT, Int.reduceLE, Int.reduceEq, Int.reduceNe, Nat.reduceLeDiff, Nat.reduceLT, Int.reduceNeg, Nat.reducePow, Nat.reduceMod, ByteArray.size, di]))
          refine At.of (j + 1, m) ⟨by simp only; omega, ?_⟩ (by simp only; omega) rfl rfl (Nat.le_refl _) ?_ ?_
          · simp only
            rw [hmf, show i = p.2.length by omega, List.take_length, htj]
            refine List.map_congr_left fun s _ => ?_
            rw [cntB_append, cntB_cons, cntB_nil, Nat.add_zero]
          iterate 2 (case _ => simp (disch := omega) only [wP, wZ, undef, UInt8.reduceToNat, Nat.reduceOr, Nat.reduceAnd, Nat.reduceXor, Nat.reduceDiv, if_pos, if_neg, aStore, frz, AV.flat, ↓reduceIte, ne_eq, reduceCtorEq, Int.reduceToNat, Nat.reduceEqDiff, Nat.reduceAdd, Nat.reduceSub, Nat.reduceMul, Int.reduceAdd, Int.reduceMul, Int.reduceSub, Int.reduceLT, Int.reduceLE, Int.reduceEq, Int.reduceNe, Nat.reduceLeDiff, Nat.reduceLT, Int.reduceNeg, Nat.reducePow, Nat.reduceMod, ByteArray.size])
      · have dj : decide ((j : Int) < (Bs.length : Int)) = false := decide_eq_false (by omega)
        rw [show j = Bs.length by omega, List.take_length] at hlf
        rw [← hlf]
        repeat (first | refine wA ?_ | refine wB ?_ | refine wC rfl ?_ | refine wD rfl ?_ | refine wE ?_ | refine wF (by omega) ?_ | ((first | refine wG ?_ | refine wH ?_ | refine wI ?_ | refine wJ ?_ | refine wK ?_ | refine wL ?_); simp (disch := omega) only [wP, wZ, undef, UInt8.reduceToNat, Nat.reduceOr, Nat.reduceAnd, Nat.reduceXor, Nat.reduceDiv, if_pos, if_neg, aStore, frz, AV.flat, ↓reduceIte, ne_eq, reduceCtorEq, Int.reduceToNat, Nat.reduceEqDiff, Nat.reduceAdd, Nat.reduceSub, Nat.reduceMul, Int.reduceAdd, Int.reduceMul, Int.reduceSub, Int.reduceLT, Int.reduceLE, Int.reduceEq, Int.reduceNe, Nat.reduceLeDiff, Nat.reduceLT, Int.reduceNeg, Nat.reducePow, Nat.reduceMod, ByteArray.size, dj, hll, iR]))
end Go.Proofs.Ytbmppmdklappiaa.Aw
namespace Go.Proofs.Ytbmppmdklappiaa.Aw
open Go
set_option linter.unusedSimpArgs false
set_option linter.unusedVariables false
structure LenOk (cs : List Int) (q : Nat) (L : List Nat) : Prop where
  len : L.length = cs.length
  each : ∀ i, i < cs.length → L.getD i 0 ≤ q ∧ (0 < L.getD i 0 ↔ 0 < cs.getD i 0)
  order : ∀ a b, a < cs.length → b < cs.length → 0 < L.getD a 0 → cs.getD a 0 < cs.getD b 0 → L.getD b 0 ≤ L.getD a 0
  one : L.countP (fun x => decide (0 < x)) < 2 → ∀ i, i < cs.length → L.getD i 0 ≤ 1
  full : ¬ L.countP (fun x => decide (0 < x)) < 2 → fullB (L.map Int.ofNat) = true
theorem getD_toNat {cs : List Int} {i : Nat} (h : i < cs.length) : (cs.map Int.toNat).getD i 0 = (cs.getD i 0).toNat := by simp [List.getD, h]
theorem badE_ok {cs : List Int} {most : Int} (h : badE cs most = 0) : 1 ≤ most ∧ most ≤ 15 ∧ cs.length ≤ 320 ∧ cs.any bdC = false ∧ usedC cs ≤ 2 ^ most.toNat := by
  unfold badE at h
  split at h
  · omega
  split at h
  · omega
  split at h
  · omega
  split at h
  · omega
  rename_i a b c d
  exact ⟨by omega, by omega, by omega, by simpa using c, by omega⟩
theorem usedC_eq {cs : List Int} : (sgB (cs.map Int.toNat)).length = usedC cs := by
  have := sgP_len (cs := cs) (k := cs.length) (Nat.le_refl _)
  rw [List.take_length] at this
  rw [← this, ← sgP_all, List.length_map]
theorem count_eq {a b : List Nat} (hl : a.length = b.length) (h : ∀ i, i < a.length → (0 < a.getD i 0 ↔ 0 < b.getD i 0)) : a.countP (fun x => decide (0 < x)) = b.countP (fun x => decide (0 < x)) := by
  induction a generalizing b with
  | nil => cases b with
    | nil => rfl
    | cons y b => simp at hl
  | cons x a ih => cases b with
    | nil => simp at hl
    | cons y b =>
      have h0 := h 0 (by simp)
      have h1 := ih (b := b) (by simpa using hl) fun i hi => by simpa using h (i + 1) (by simpa using hi)
      rw [List.countP_cons, List.countP_cons, h1]
      simp only [List.getD_cons_zero] at h0
      by_cases q : 0 < x
      · rw [if_pos (by simpa using q), if_pos (by simpa using h0.1 q)]
      · rw [if_neg (by simpa using q), if_neg (by simpa using fun w => q (h0.2 w))]
theorem lens_ok {cs : List Int} {most : Int} (h : badE cs most = 0) : LenOk cs most.toNat (lensB (cs.map Int.toNat) most.toNat) := by
  obtain ⟨h1, h15, hl, hb, hu⟩ := badE_ok h
  obtain ⟨c, hc⟩ : ∃ c, c = cs.map Int.toNat := ⟨_, rfl⟩
  obtain ⟨q, hq⟩ : ∃ q, q = most.toNat := ⟨_, rfl⟩
  have hcl : c.length = cs.length := by rw [hc, List.length_map]
  have hs : (sgB c).length = usedC cs := by rw [hc]; exact usedC_eq
  rw [← hc, ← hq]
  rw [← hq] at hu
  have q1 : 1 ≤ q := by omega
  have hg : ∀ i, i < cs.length → c.getD i 0 = (cs.getD i 0).toNat := fun i hi => by rw [hc]; exact getD_toNat hi
  have he : ∀ i, i < cs.length → (lensB c q).getD i 0 ≤ q ∧ (0 < (lensB c q).getD i 0 ↔ 0 < c.getD i 0) := fun i hi => lens_each q1 (by rw [hs]; exact hu) (by rw [hcl]; exact hi)
  have hcnt : (lensB c q).countP (fun x => decide (0 < x)) = (sgB c).length := by
    rw [count_eq (b := c) (by rw [length_lens]) fun i hi => (he i (by rw [length_lens, hcl] at hi; exact hi)).2]
    rw [hs, hc, usedC, List.countP_map]
    refine List.countP_congr fun x _ => ?_
    simp only [Function.comp, decide_eq_true_eq]
    omega
  refine ⟨by rw [length_lens, hcl], fun i hi => ⟨(he i hi).1, by rw [(he i hi).2, hg i hi]; omega⟩, fun a b ha hb pa hab => ?_, fun hn i hi => ?_, fun hn => ?_⟩
  · have pa := (he a ha).2.1 pa
    refine lens_order q1 (by rw [hs]; exact hu) (by omega) (by omega) pa ?_
    rw [hg a ha] at pa
    rw [hg a ha, hg b hb]
    omega
  · exact lens_one (by rw [← hcnt]; exact hn) (by omega)
  · have hk := lens_full q1 (by omega) (by rw [← hcnt]; omega) (by rw [hs]; exact hu)
    have hm : ((lensB c q).map Int.ofNat).map Int.toNat = lensB c q := by rw [List.map_map]; exact List.map_id' _
    have hch : chk ((lensB c q).map Int.ofNat) = 0 := by
      unfold chk
      rw [hm, hk, List.length_map, length_lens, if_neg (by omega), if_neg, if_neg (by omega)]
      rw [Bool.not_eq_false, List.all_eq_true]
      intro x hx
      obtain ⟨y, hy, rfl⟩ := List.mem_map.1 hx
      obtain ⟨i, hi, rfl⟩ := List.mem_iff_getElem.1 hy
      have hi' := hi
      rw [length_lens, hcl] at hi'
      have := (he i hi').1
      simp only [List.getD, List.getElem?_eq_getElem hi, Option.getD_some] at this
      simp only [okLen, decide_eq_true_eq]
      have h15' : (lensB c q)[i] ≤ 15 := by omega
      exact ⟨Int.natCast_nonneg _, (Int.ofNat_le (n := 15)).2 h15'⟩
    unfold fullB
    rw [hch, hm, hk]
    rfl
end Go.Proofs.Ytbmppmdklappiaa.Aw
