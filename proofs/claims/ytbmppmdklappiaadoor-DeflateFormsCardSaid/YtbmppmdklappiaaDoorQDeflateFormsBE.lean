/- Parts of the proof of DeflateForms. -/
import Derived.Test.YtbmppmdklappiaaDoorQDeflateFormsBD
import Derived.Test.YtbmppmdklappiaaDoorQDeflateFormsBB
namespace Go.Proofs.YtbmppmdklappiaaDoor.Aw
open Go
set_option linter.unusedSimpArgs false
set_option linter.unusedVariables false
def KM (n : Nat) : Nat := 10 * n * n
theorem KM_pos {n : Nat} (h : 1 ≤ n) : 1 ≤ KM n := by
  have := Nat.mul_le_mul h h
  unfold KM; rw [Nat.mul_assoc]; omega
theorem KM_add {p q : Nat} (hp : 1 ≤ p) (hq : 1 ≤ q) : 3 + (p + q) + KM p + KM q ≤ KM (p + q) := by
  unfold KM
  have e : 10 * (p + q) * (p + q) = 10 * p * p + 10 * q * q + 20 * (p * q) := by
    simp only [Nat.mul_add, Nat.add_mul, Nat.mul_assoc, Nat.mul_comm q p]
    omega
  have h1 : p + q ≤ p * q + 1 := by
    obtain ⟨p', rfl⟩ : ∃ p', p = p' + 1 := ⟨p - 1, by omega⟩
    obtain ⟨q', rfl⟩ : ∃ q', q = q' + 1 := ⟨q - 1, by omega⟩
    simp only [Nat.add_mul, Nat.mul_add, Nat.mul_one, Nat.one_mul]
    omega
  have h2 := Nat.mul_le_mul hp hq
  omega
set_option maxHeartbeats 4000000 in
set_option maxRecDepth 100000 in
theorem slices_symMerge_h [Tabs Tryd.prog] : ∀ (n : Nat) (Pf X Y Tl : List Bt) (N a m b : Nat), X.length + Y.length = n → N = (Pf ++ (X ++ (Y ++ Tl))).length → N ≤ 100000 → a = Pf.length → m = Pf.length + X.length → b = m + Y.length → 1 ≤ X.length → 1 ≤ Y.length → Srt X → Srt Y →
    HCon Tryd.prog n_slices_symMergeCmpFunchuff_batch [.own 1000 0 (some 2) 0 N, int a, int m, int b, cmpF] [.row false (bC (Pf ++ (X ++ (Y ++ Tl))))] (.tup []) [(1000, 0, .row false (bC (Pf ++ (sortB (X ++ Y) ++ Tl))))] (KM n) := by
  intro n
  induction n using Nat.strongRecOn with
  | _ n ih =>
  intro Pf X Y Tl N a m b hn hN hl ha hm hb hX1 hY1 hX hY
  by_cases c1 : X.length = 1
  · obtain ⟨x, rfl⟩ := List.length_eq_one_iff.1 c1
    exact slices_symMerge_left Pf Y Tl x N a m b hN hl ha hm hb hY (KM n) (KM_pos (by omega))
  by_cases c2 : Y.length = 1
  · obtain ⟨y, rfl⟩ := List.length_eq_one_iff.1 c2
    exact slices_symMerge_right Pf X Tl y N a m b hN hl ha hm hb (by omega) hX (KM n) (KM_pos (by omega))
  refine HCon.of' mix Tryd.func121 rfl Tryd.ntmps121 e_slices_symMergeCmpFunchuff_batch r_slices_symMergeCmpFunchuff_batch (by simp) (by simp only [AV.gl.glL, AV.gl, int, cmpF, and_true]; omega) bC_gl ?_
  unfold s_slices_symMergeCmpFunchuff_batch
  have hlen : N = Pf.length + (X.length + (Y.length + Tl.length)) := by rw [hN]; simp
  have d0 : decide ((m : Int) - (a : Int) = 1) = false := decide_eq_false (by omega)
  have d00 : decide ((b : Int) - (m : Int) = 1) = false := decide_eq_false (by omega)
  obtain ⟨mid, hmid⟩ : ∃ mid, mid = (a + b) / 2 := ⟨_, rfl⟩
  obtain ⟨nn, hnn⟩ : ∃ nn, nn = mid + m := ⟨_, rfl⟩
  obtain ⟨pp, hpp⟩ : ∃ pp, pp = nn - 1 := ⟨_, rfl⟩
  have emid : IntKind.i64.wrap ((IntKind.u64.wrap ((a : Int) + (b : Int))).fdiv (2 ^ 1)) = (mid : Int) := by
    rw [wrap_u64_id3 (by omega) (by omega), show ((2 : Int) ^ 1) = 2 from rfl, Int.fdiv_eq_ediv_of_nonneg _ (by omega), wrap_i64_id (by omega) (by omega)]
    omega
  have enn : (mid : Int) + (m : Int) = (nn : Int) := by omega
  have epp : (nn : Int) - 1 = (pp : Int) := by omega
  obtain ⟨W, hW⟩ : ∃ W, W = Pf ++ (X ++ (Y ++ Tl)) := ⟨_, rfl⟩
  rw [← hW] at hN
  rw [← hW]
  by_cases hmm : mid < m
  · have dm : decide ((m : Int) > (mid : Int)) = true := decide_eq_true (by omega)
    obtain ⟨s0, hs0⟩ : ∃ s0, s0 = nn - b := ⟨_, rfl⟩
    obtain ⟨r0, hr0⟩ : ∃ r0, r0 = mid := ⟨_, rfl⟩
    have es0 : (nn : Int) - (b : Int) = (s0 : Int) := by omega
    have b1 : a ≤ s0 := by omega
    have b2 : s0 ≤ r0 := by omega
    have b3 : r0 ≤ m := by omega
    have b4 : nn - s0 ≤ b := by omega
    have b5 : m ≤ nn - r0 := by omega
    have i1 : ∀ x ∈ X.take (s0 - a), ∀ y ∈ Y.drop (nn - s0 - m), x.1 ≤ y.1 := fun x _ y hy => by
      rw [List.drop_of_length_le (by omega)] at hy; simp at hy
    have i2 : ∀ y ∈ Y.take (nn - r0 - m), ∀ x ∈ X.drop (r0 - a), y.1 < x.1 := fun y hy => by
      rw [show nn - r0 - m = 0 from by omega] at hy; simp at hy
    repeat (first | refine wA ?_ | refine wB ?_ | refine wC rfl ?_ | refine wD rfl ?_ | refine wE ?_ | refine wF (by omega) ?_ | ((first | refine wG ?_ | refine wH ?_ | refine wI ?_ | refine wJ ?_ | refine wK ?_ | refine wL ?_); simp (disch := omega) only [wP, wZ, undef, UInt8.reduceToNat, Nat.reduceOr, Nat.reduceAnd, Nat.reduceXor, Nat.reduceDiv, if_pos, if_neg, aStore, frz, AV.flat, ↓reduceIte, ne_eq, reduceCtorEq, Int.reduceToNat, Nat.reduceEqDiff, Nat.reduceAdd, Nat.reduceSub, Nat.reduceMul, Int.reduceAdd, Int.reduceMul, Int.reduceSub, Int.reduceLT, Int.reduceLE, Int.reduceEq, Int.reduceNe, Nat.reduceLeDiff, Nat.reduceLT, Int.reduceNeg, Nat.reducePow, Nat.reduceMod, ByteArray.size, d0, d00, emid, enn, dm, es0, epp]))
    refine SWp.loop (α := Nat × Nat) (fun p => mk 220 1 [(0, .own 1000 0 (some 2) 0 N), (1, int a), (2, int m), (3, int b), (4, cmpF), (18, int mid), (19, int nn), (20, int p.1), (21, int p.2), (22, int pp)] [(1000, 0, .row false (bC W))])
      (fun p => a ≤ p.1 ∧ p.1 ≤ p.2 ∧ p.2 ≤ m ∧ nn - p.1 ≤ b ∧ m ≤ nn - p.2 ∧ (∀ x ∈ X.take (p.1 - a), ∀ y ∈ Y.drop (nn - p.1 - m), x.1 ≤ y.1) ∧ (∀ y ∈ Y.take (nn - p.2 - m), ∀ x ∈ X.drop (p.2 - a), y.1 < x.1)) (fun p => p.2 - p.1) (s0, r0) ⟨b1, b2, b3, b4, b5, i1, i2⟩ (le_mk rfl ?_ ?_ ?_) ?_
    · exact Nat.le_refl _
    iterate 2 (case _ => simp (disch := omega) only [wP, wZ, undef, UInt8.reduceToNat, Nat.reduceOr, Nat.reduceAnd, Nat.reduceXor, Nat.reduceDiv, if_pos, if_neg, aStore, frz, AV.flat, ↓reduceIte, ne_eq, reduceCtorEq, Int.reduceToNat, Nat.reduceEqDiff, Nat.reduceAdd, Nat.reduceSub, Nat.reduceMul, Int.reduceAdd, Int.reduceMul, Int.reduceSub, Int.reduceLT, Int.reduceLE, Int.reduceEq, Int.reduceNe, Nat.reduceLeDiff, Nat.reduceLT, Int.reduceNeg, Nat.reducePow, Nat.reduceMod, ByteArray.size, hs0, hr0])
    clear i1 i2 b1 b2 b3 b4 b5
    rintro ⟨s, r⟩ ⟨b1, b2, b3, b4, b5, i1, i2⟩ -
    simp only at b1 b2 b3 b4 b5 i1 i2
    repeat (first | refine wA ?_ | refine wB ?_ | refine wC rfl ?_ | refine wD rfl ?_ | refine wE ?_ | refine wF (by omega) ?_ | ((first | refine wG ?_ | refine wH ?_ | refine wI ?_ | refine wJ ?_ | refine wK ?_ | refine wL ?_); simp (disch := omega) only [wP, wZ, undef, UInt8.reduceToNat, Nat.reduceOr, Nat.reduceAnd, Nat.reduceXor, Nat.reduceDiv, if_pos, if_neg, aStore, frz, AV.flat, ↓reduceIte, ne_eq, reduceCtorEq, Int.reduceToNat, Nat.reduceEqDiff, Nat.reduceAdd, Nat.reduceSub, Nat.reduceMul, Int.reduceAdd, Int.reduceMul, Int.reduceSub, Int.reduceLT, Int.reduceLE, Int.reduceEq, Int.reduceNe, Nat.reduceLeDiff, Nat.reduceLT, Int.reduceNeg, Nat.reducePow, Nat.reduceMod, ByteArray.size]))
    refine SWp.cond rfl (fun h => ?_) (fun h => ?_)
    · simp only [decide_eq_true_eq] at h
      obtain ⟨q, hq⟩ : ∃ q, q = (s + r) / 2 := ⟨_, rfl⟩
      obtain ⟨e, he⟩ : ∃ e, e = pp - q := ⟨_, rfl⟩
      have eq1 : IntKind.i64.wrap ((IntKind.u64.wrap ((s : Int) + (r : Int))).fdiv (2 ^ 1)) = (q : Int) := by
        rw [wrap_u64_id3 (by omega) (by omega), show ((2 : Int) ^ 1) = 2 from rfl, Int.fdiv_eq_ediv_of_nonneg _ (by omega), wrap_i64_id (by omega) (by omega)]
        omega
      have eq2 : (pp : Int) - (q : Int) = (e : Int) := by omega
      obtain ⟨u, hu⟩ : ∃ u, u = q - a := ⟨_, rfl⟩
      obtain ⟨v, hv⟩ : ∃ v, v = e - m := ⟨_, rfl⟩
      have huX : u < X.length := by omega
      have hvY : v < Y.length := by omega
      have hql : q < W.length := by omega
      have hel : e < W.length := by omega
      have e1 := load_bC hql
      have e2 := load_bC hel
      have g1 : W.getD q (0, []) = X.getD u (0, []) := by
        rw [hW]
        simp only [List.getD]
        rw [List.getElem?_append_right (by omega), show q - Pf.length = u from by omega, List.getElem?_append_left huX]
      have g2 : W.getD e (0, []) = Y.getD v (0, []) := by
        rw [hW]
        simp only [List.getD]
        rw [List.getElem?_append_right (by omega), List.getElem?_append_right (by omega), show e - Pf.length - X.length = v from by omega, List.getElem?_append_left hvY]
      obtain ⟨x, hx⟩ : ∃ x, x = X.getD u (0, []) := ⟨_, rfl⟩
      obtain ⟨y, hy⟩ : ∃ y, y = Y.getD v (0, []) := ⟨_, rfl⟩
      rw [g1, ← hx] at e1
      rw [g2, ← hy] at e2
      have e3 : (bC W).length = N * 2 := by rw [length_bC, hN]
      have heN : e * 2 + 2 ≤ N * 2 := by omega
      have hqN : q * 2 + 2 ≤ N * 2 := by omega
      have x1 := srt_take hX huX
      have x2 := srt_drop hX huX
      have y1 := srt_take hY hvY
      have y2 := srt_drop hY hvY
      rw [← hx] at x1 x2
      rw [← hy] at y1 y2
      repeat (first | refine wA ?_ | refine wB ?_ | refine wC rfl ?_ | refine wD rfl ?_ | refine wE ?_ | refine wF (by omega) ?_ | ((first | refine wG ?_ | refine wH ?_ | refine wI ?_ | refine wJ ?_ | refine wK ?_ | refine wL ?_); simp (disch := omega) only [wP, wZ, undef, UInt8.reduceToNat, Nat.reduceOr, Nat.reduceAnd, Nat.reduceXor, Nat.reduceDiv, if_pos, if_neg, aStore, frz, AV.flat, ↓reduceIte, ne_eq, reduceCtorEq, Int.reduceToNat, Nat.reduceEqDiff, Nat.reduceAdd, Nat.reduceSub, Nat.reduceMul, Int.reduceAdd, Int.reduceMul, Int.reduceSub, Int.reduceLT, Int.reduceLE, Int.reduceEq, Int.reduceNe, Nat.reduceLeDiff, Nat.reduceLT, Int.reduceNeg, Nat.reducePow, Nat.reduceMod, ByteArray.size, eq1, eq2, e1, e2, e3]))
      refine goV_at n_huff_byCount rfl (by decide) ?_
      refine goC_p _ (.inl ⟨by simp only [AV.free, AV.free.freeL, nA, free_nA, Bool.and_self], huff_byCount_c (y.1 : Int) (x.1 : Int) _ _ (by simp only [AV.free, free_nA]) (by simp only [AV.free, free_nA])⟩) ?_
      by_cases c : y.1 < x.1
      · have dc : decide (cmpI (y.1 : Int) (x.1 : Int) < 0) = true := by
          unfold cmpI; rw [if_pos (by omega)]; rfl
        repeat (first | refine wA ?_ | refine wB ?_ | refine wC rfl ?_ | refine wD rfl ?_ | refine wE ?_ | refine wF (by omega) ?_ | ((first | refine wG ?_ | refine wH ?_ | refine wI ?_ | refine wJ ?_ | refine wK ?_ | refine wL ?_); simp (disch := omega) only [wP, wZ, undef, UInt8.reduceToNat, Nat.reduceOr, Nat.reduceAnd, Nat.reduceXor, Nat.reduceDiv, if_pos, if_neg, aStore, frz, AV.flat, ↓reduceIte, ne_eq, reduceCtorEq, Int.reduceToNat, Nat.reduceEqDiff, Nat.reduceAdd, Nat.reduceSub, Nat.reduceMul, Int.reduceAdd, Int.reduceMul, Int.reduceSub, Int.reduceLT, Int.reduceLE, Int.reduceEq, Int.reduceNe, Nat.reduceLeDiff, Nat.reduceLT, Int.reduceNeg, Nat.reducePow, Nat.reduceMod, ByteArray.size, dc]))
        refine At.of (s, q) ⟨b1, by simp only; omega, by simp only; omega, b4, by simp only; omega, i1, fun y' hy' x' hx' => ?_⟩ (by simp only; omega) rfl rfl (Nat.le_refl _) ?_ ?_
        · simp only at hy' hx'
          rw [show nn - q - m = v + 1 from by omega] at hy'
          rw [show q - a = u from by omega] at hx'
          have h1 := y1 y' hy'
          have h2 := x2 x' hx'
          omega
        · simp (disch := omega) only [wP, wZ, undef, UInt8.reduceToNat, Nat.reduceOr, Nat.reduceAnd, Nat.reduceXor, Nat.reduceDiv, if_pos, if_neg, aStore, frz, AV.flat, ↓reduceIte, ne_eq, reduceCtorEq, Int.reduceToNat, Nat.reduceEqDiff, Nat.reduceAdd, Nat.reduceSub, Nat.reduceMul, Int.reduceAdd, Int.reduceMul, Int.reduceSub, Int.reduceLT, Int.reduceLE, Int.reduceEq, Int.reduceNe, Nat.reduceLeDiff, Nat.reduceLT, Int.reduceNeg, Nat.reducePow, Nat.reduceMod, ByteArray.size]
          try omega
        · simp (disch := omega) only [wP, wZ, undef, UInt8.reduceToNat, Nat.reduceOr, Nat.reduceAnd, Nat.reduceXor, Nat.reduceDiv, if_pos, if_neg, aStore, frz, AV.flat, ↓reduceIte, ne_eq, reduceCtorEq, Int.reduceToNat, Nat.reduceEqDiff, Nat.reduceAdd, Nat.reduceSub, Nat.reduceMul, Int.reduceAdd, Int.reduceMul, Int.reduceSub, Int.reduceLT, Int.reduceLE, Int.reduceEq, Int.reduceNe, Nat.reduceLeDiff, Nat.reduceLT, Int.reduceNeg, Nat.reducePow, Nat.reduceMod, ByteArray.size]
      · have dc : decide (cmpI (y.1 : Int) (x.1 : Int) < 0) = false := by
          unfold cmpI; rw [if_neg (by omega)]; split <;> rfl
        repeat (first | refine wA ?_ | refine wB ?_ | refine wC rfl ?_ | refine wD rfl ?_ | refine wE ?_ | refine wF (by omega) ?_ | ((first | refine wG ?_ | refine wH ?_ | refine wI ?_ | refine wJ ?_ | refine wK ?_ | refine wL ?_); simp (disch := omega) only [wP, wZ, undef, UInt8.reduceToNat, Nat.reduceOr, Nat.reduceAnd, Nat.reduceXor, Nat.reduceDiv, if_pos, if_neg, aStore, frz, AV.flat, ↓reduceIte, ne_eq, reduceCtorEq, Int.reduceToNat, Nat.reduceEqDiff, Nat.reduceAdd, Nat.reduceSub, Nat.reduceMul, Int.reduceAdd, Int.reduceMul, Int.reduceSub, Int.reduceLT, Int.reduceLE, Int.reduceEq, Int.reduceNe, Nat.reduceLeDiff, Nat.reduceLT, Int.reduceNeg, Nat.reducePow, Nat.reduceMod, ByteArray.size, dc]))
        refine At.of (q + 1, r) ⟨by simp only; omega, by simp only; omega, b3, by simp only; omega, b5, fun x' hx' y' hy' => ?_, i2⟩ (by simp only; omega) rfl rfl (Nat.le_refl _) ?_ ?_
        · simp only at hy' hx'
          rw [show nn - (q + 1) - m = v from by omega] at hy'
          rw [show q + 1 - a = u + 1 from by omega] at hx'
          have h1 := x1 x' hx'
          have h2 := y2 y' hy'
          omega
        · simp (disch := omega) only [wP, wZ, undef, UInt8.reduceToNat, Nat.reduceOr, Nat.reduceAnd, Nat.reduceXor, Nat.reduceDiv, if_pos, if_neg, aStore, frz, AV.flat, ↓reduceIte, ne_eq, reduceCtorEq, Int.reduceToNat, Nat.reduceEqDiff, Nat.reduceAdd, Nat.reduceSub, Nat.reduceMul, Int.reduceAdd, Int.reduceMul, Int.reduceSub, Int.reduceLT, Int.reduceLE, Int.reduceEq, Int.reduceNe, Nat.reduceLeDiff, Nat.reduceLT, Int.reduceNeg, Nat.reducePow, Nat.reduceMod, ByteArray.size]
          try omega
        · simp (disch := omega) only [wP, wZ, undef, UInt8.reduceToNat, Nat.reduceOr, Nat.reduceAnd, Nat.reduceXor, Nat.reduceDiv, if_pos, if_neg, aStore, frz, AV.flat, ↓reduceIte, ne_eq, reduceCtorEq, Int.reduceToNat, Nat.reduceEqDiff, Nat.reduceAdd, Nat.reduceSub, Nat.reduceMul, Int.reduceAdd, Int.reduceMul, Int.reduceSub, Int.reduceLT, Int.reduceLE, Int.reduceEq, Int.reduceNe, Nat.reduceLeDiff, Nat.reduceLT, Int.reduceNeg, Nat.reducePow, Nat.reduceMod, ByteArray.size]
    · simp only [decide_eq_false_iff_not] at h
      obtain rfl : s = r := by omega
      obtain ⟨X1, hX1'⟩ : ∃ X1, X1 = X.take (s - a) := ⟨_, rfl⟩
      obtain ⟨X2, hX2'⟩ : ∃ X2, X2 = X.drop (s - a) := ⟨_, rfl⟩
      obtain ⟨Y1, hY1'⟩ : ∃ Y1, Y1 = Y.take (nn - s - m) := ⟨_, rfl⟩
      obtain ⟨Y2, hY2'⟩ : ∃ Y2, Y2 = Y.drop (nn - s - m) := ⟨_, rfl⟩
      rw [← hX1', ← hY2'] at i1
      rw [← hY1', ← hX2'] at i2
      have hXX : X = X1 ++ X2 := by rw [hX1', hX2', List.take_append_drop]
      have hYY : Y = Y1 ++ Y2 := by rw [hY1', hY2', List.take_append_drop]
      obtain ⟨e, he⟩ : ∃ e, e = nn - s := ⟨_, rfl⟩
      have l1 : X1.length = s - a := by rw [hX1', List.length_take]; omega
      have l2 : X2.length = m - s := by rw [hX2', List.length_drop]; omega
      have l3 : Y1.length = e - m := by rw [hY1', List.length_take]; omega
      have l4 : Y2.length = b - e := by rw [hY2', List.length_drop]; omega
      have eens : (nn : Int) - (s : Int) = (e : Int) := by omega
      have hWl : W = Pf ++ (X1 ++ (X2 ++ (Y1 ++ (Y2 ++ Tl)))) := by rw [hW, hXX, hYY]; simp
      have sX := hX
      have sY := hY
      rw [hXX] at sX
      rw [hYY] at sY
      have hcut := sortB_cut sX sY i1 i2
      rw [← hXX, ← hYY] at hcut
      obtain ⟨sX1, sX2, _⟩ := List.pairwise_append.1 sX
      obtain ⟨sY1, sY2, _⟩ := List.pairwise_append.1 sY
      iterate 4 (first | refine wA ?_ | refine wB ?_ | refine wC rfl ?_ | refine wD rfl ?_ | refine wE ?_ | refine wF (by omega) ?_ | ((first | refine wG ?_ | refine wH ?_ | refine wI ?_ | refine wJ ?_ | refine wK ?_ | refine wL ?_); simp (disch := omega) only [wP, wZ, undef, UInt8.reduceToNat, Nat.reduceOr, Nat.reduceAnd, Nat.reduceXor, Nat.reduceDiv, if_pos, if_neg, aStore, frz, AV.flat, ↓reduceIte, ne_eq, reduceCtorEq, Int.reduceToNat, Nat.reduceEqDiff, Nat.reduceAdd, Nat.reduceSub, Nat.reduceMul, Int.reduceAdd, Int.reduceMul, Int.reduceSub, Int.reduceLT, Int.reduceLE, Int.reduceEq, Int.reduceNe, Nat.reduceLeDiff, Nat.reduceLT, Int.reduceNeg, Nat.reducePow, Nat.reduceMod, ByteArray.size, eens]))
      have lp : X1.length + Y1.length = mid - a := by omega
      have lq : X2.length + Y2.length = b - mid := by omega
      have hKK := KM_add (p := X1.length + Y1.length) (q := X2.length + Y2.length) (by omega) (by omega)
      rw [show X1.length + Y1.length + (X2.length + Y2.length) = n from by omega] at hKK
      obtain ⟨g1, hg1⟩ : ∃ g1, g1 = 1 + (2 + (X2.length + Y1.length)) := ⟨_, rfl⟩
      refine SWp.toT (F := mk 220 g1 [(0, .own 1000 0 (some 2) 0 N), (1, int a), (2, int m), (3, int b), (4, cmpF), (18, int mid), (20, int s), (24, int e)] [(1000, 0, .row false (bC (Pf ++ (X1 ++ (Y1 ++ (X2 ++ (Y2 ++ Tl)))))))]) ?_ ?_
      · by_cases ca : s < m
        · have dA1 : decide ((s : Int) < (m : Int)) = true := decide_eq_true (by omega)
          by_cases cb : m < e
          · have dA2 : decide ((m : Int) < (e : Int)) = true := decide_eq_true (by omega)
            have hrot := slices_rotate_h (Pf ++ X1) X2 Y1 (Y2 ++ Tl) N s m e (by rw [hN, hWl]; simp) hl (by simp; omega) (by simp; omega) (by simp; omega) (by omega) (by omega)
            simp only [List.append_assoc] at hrot
            rw [← hWl] at hrot
            repeat (first | refine wA ?_ | refine wB ?_ | refine wC rfl ?_ | refine wD rfl ?_ | refine wE ?_ | refine wF (by omega) ?_ | ((first | refine wG ?_ | refine wH ?_ | refine wI ?_ | refine wJ ?_ | refine wK ?_ | refine wL ?_); simp (disch := omega) only [wP, wZ, undef, UInt8.reduceToNat, Nat.reduceOr, Nat.reduceAnd, Nat.reduceXor, Nat.reduceDiv, if_pos, if_neg, aStore, frz, AV.flat, ↓reduceIte, ne_eq, reduceCtorEq, Int.reduceToNat, Nat.reduceEqDiff, Nat.reduceAdd, Nat.reduceSub, Nat.reduceMul, Int.reduceAdd, Int.reduceMul, Int.reduceSub, Int.reduceLT, Int.reduceLE, Int.reduceEq, Int.reduceNe, Nat.reduceLeDiff, Nat.reduceLT, Int.reduceNeg, Nat.reducePow, Nat.reduceMod, ByteArray.size, dA1, dA2]))
            refine goC_h [(1000, 0)] 2000 hrot (by simp) (by simp) ?_ ?_ ?_
            iterate 2 (case _ => simp (disch := omega) only [wP, wZ, undef, UInt8.reduceToNat, Nat.reduceOr, Nat.reduceAnd, Nat.reduceXor, Nat.reduceDiv, if_pos, if_neg, aStore, frz, AV.flat, ↓reduceIte, ne_eq, reduceCtorEq, Int.reduceToNat, Nat.reduceEqDiff, Nat.reduceAdd, Nat.reduceSub, Nat.reduceMul, Int.reduceAdd, Int.reduceMul, Int.reduceSub, Int.reduceLT, Int.reduceLE, Int.reduceEq, Int.reduceNe, Nat.reduceLeDiff, Nat.reduceLT, Int.reduceNeg, Nat.reducePow, Nat.reduceMod, ByteArray.size, renL_bC, cmpF])
            repeat (first | refine wA ?_ | refine wB ?_ | refine wC rfl ?_ | refine wD rfl ?_ | refine wE ?_ | refine wF (by omega) ?_ | ((first | refine wG ?_ | refine wH ?_ | refine wI ?_ | refine wJ ?_ | refine wK ?_ | refine wL ?_); simp (disch := omega) only [wP, wZ, undef, UInt8.reduceToNat, Nat.reduceOr, Nat.reduceAnd, Nat.reduceXor, Nat.reduceDiv, if_pos, if_neg, aStore, frz, AV.flat, ↓reduceIte, ne_eq, reduceCtorEq, Int.reduceToNat, Nat.reduceEqDiff, Nat.reduceAdd, Nat.reduceSub, Nat.reduceMul, Int.reduceAdd, Int.reduceMul, Int.reduceSub, Int.reduceLT, Int.reduceLE, Int.reduceEq, Int.reduceNe, Nat.reduceLeDiff, Nat.reduceLT, Int.reduceNeg, Nat.reducePow, Nat.reduceMod, ByteArray.size, renL_bC]))
            refine le_mk rfl ?_ ?_ ?_
            · show 1 + (2 + (X2.length + Y1.length)) ≤ g1
              omega
            iterate 2 (case _ => simp (disch := omega) only [wP, wZ, undef, UInt8.reduceToNat, Nat.reduceOr, Nat.reduceAnd, Nat.reduceXor, Nat.reduceDiv, if_pos, if_neg, aStore, frz, AV.flat, ↓reduceIte, ne_eq, reduceCtorEq, Int.reduceToNat, Nat.reduceEqDiff, Nat.reduceAdd, Nat.reduceSub, Nat.reduceMul, Int.reduceAdd, Int.reduceMul, Int.reduceSub, Int.reduceLT, Int.reduceLE, Int.reduceEq, Int.reduceNe, Nat.reduceLeDiff, Nat.reduceLT, Int.reduceNeg, Nat.reducePow, Nat.reduceMod, ByteArray.size])
          · have dA2 : decide ((m : Int) < (e : Int)) = false := decide_eq_false (by omega)
            have hY0 : Y1 = [] := List.eq_nil_of_length_eq_zero (by omega)
            repeat (first | refine wA ?_ | refine wB ?_ | refine wC rfl ?_ | refine wD rfl ?_ | refine wE ?_ | refine wF (by omega) ?_ | ((first | refine wG ?_ | refine wH ?_ | refine wI ?_ | refine wJ ?_ | refine wK ?_ | refine wL ?_); simp (disch := omega) only [wP, wZ, undef, UInt8.reduceToNat, Nat.reduceOr, Nat.reduceAnd, Nat.reduceXor, Nat.reduceDiv, if_pos, if_neg, aStore, frz, AV.flat, ↓reduceIte, ne_eq, reduceCtorEq, Int.reduceToNat, Nat.reduceEqDiff, Nat.reduceAdd, Nat.reduceSub, Nat.reduceMul, Int.reduceAdd, Int.reduceMul, Int.reduceSub, Int.reduceLT, Int.reduceLE, Int.reduceEq, Int.reduceNe, Nat.reduceLeDiff, Nat.reduceLT, Int.reduceNeg, Nat.reducePow, Nat.reduceMod, ByteArray.size, dA1, dA2]))
            refine SWp.skip (le_mk rfl ?_ ?_ ?_)
            · show 1 ≤ g1
              omega
            iterate 2 (case _ => simp (disch := omega) only [wP, wZ, undef, UInt8.reduceToNat, Nat.reduceOr, Nat.reduceAnd, Nat.reduceXor, Nat.reduceDiv, if_pos, if_neg, aStore, frz, AV.flat, ↓reduceIte, ne_eq, reduceCtorEq, Int.reduceToNat, Nat.reduceEqDiff, Nat.reduceAdd, Nat.reduceSub, Nat.reduceMul, Int.reduceAdd, Int.reduceMul, Int.reduceSub, Int.reduceLT, Int.reduceLE, Int.reduceEq, Int.reduceNe, Nat.reduceLeDiff, Nat.reduceLT, Int.reduceNeg, Nat.reducePow, Nat.reduceMod, ByteArray.size, hWl, hY0])
        · have dA1 : decide ((s : Int) < (m : Int)) = false := decide_eq_false (by omega)
          have hX0 : X2 = [] := List.eq_nil_of_length_eq_zero (by omega)
          repeat (first | refine wA ?_ | refine wB ?_ | refine wC rfl ?_ | refine wD rfl ?_ | refine wE ?_ | refine wF (by omega) ?_ | ((first | refine wG ?_ | refine wH ?_ | refine wI ?_ | refine wJ ?_ | refine wK ?_ | refine wL ?_); simp (disch := omega) only [wP, wZ, undef, UInt8.reduceToNat, Nat.reduceOr, Nat.reduceAnd, Nat.reduceXor, Nat.reduceDiv, if_pos, if_neg, aStore, frz, AV.flat, ↓reduceIte, ne_eq, reduceCtorEq, Int.reduceToNat, Nat.reduceEqDiff, Nat.reduceAdd, Nat.reduceSub, Nat.reduceMul, Int.reduceAdd, Int.reduceMul, Int.reduceSub, Int.reduceLT, Int.reduceLE, Int.reduceEq, Int.reduceNe, Nat.reduceLeDiff, Nat.reduceLT, Int.reduceNeg, Nat.reducePow, Nat.reduceMod, ByteArray.size, dA1]))
          refine SWp.skip (le_mk rfl ?_ ?_ ?_)
          · show 1 ≤ g1
            omega
          iterate 2 (case _ => simp (disch := omega) only [wP, wZ, undef, UInt8.reduceToNat, Nat.reduceOr, Nat.reduceAnd, Nat.reduceXor, Nat.reduceDiv, if_pos, if_neg, aStore, frz, AV.flat, ↓reduceIte, ne_eq, reduceCtorEq, Int.reduceToNat, Nat.reduceEqDiff, Nat.reduceAdd, Nat.reduceSub, Nat.reduceMul, Int.reduceAdd, Int.reduceMul, Int.reduceSub, Int.reduceLT, Int.reduceLE, Int.reduceEq, Int.reduceNe, Nat.reduceLeDiff, Nat.reduceLT, Int.reduceNeg, Nat.reducePow, Nat.reduceMod, ByteArray.size, hWl, hX0])
      obtain ⟨g2, hg2⟩ : ∃ g2, g2 = g1 + KM (X1.length + Y1.length) := ⟨_, rfl⟩
      refine SWp.to (F := mk 220 g2 [(0, .own 1000 0 (some 2) 0 N), (1, int a), (2, int m), (3, int b), (4, cmpF), (18, int mid), (20, int s), (24, int e)] [(1000, 0, .row false (bC (Pf ++ (sortB (X1 ++ Y1) ++ (X2 ++ (Y2 ++ Tl))))))]) ?_ ?_
      · by_cases ca : a < s
        · have dB1 : decide ((a : Int) < (s : Int)) = true := decide_eq_true (by omega)
          by_cases cb : s < mid
          · have dB2 : decide ((s : Int) < (mid : Int)) = true := decide_eq_true (by omega)
            have hrec := ih (X1.length + Y1.length) (by omega) Pf X1 Y1 (X2 ++ (Y2 ++ Tl)) N a s mid rfl (by rw [hN, hWl]; simp; omega) hl ha (by omega) (by omega) (by omega) (by omega) sX1 sY1
            repeat (first | refine wA ?_ | refine wB ?_ | refine wC rfl ?_ | refine wD rfl ?_ | refine wE ?_ | refine wF (by omega) ?_ | ((first | refine wG ?_ | refine wH ?_ | refine wI ?_ | refine wJ ?_ | refine wK ?_ | refine wL ?_); simp (disch := omega) only [wP, wZ, undef, UInt8.reduceToNat, Nat.reduceOr, Nat.reduceAnd, Nat.reduceXor, Nat.reduceDiv, if_pos, if_neg, aStore, frz, AV.flat, ↓reduceIte, ne_eq, reduceCtorEq, Int.reduceToNat, Nat.reduceEqDiff, Nat.reduceAdd, Nat.reduceSub, Nat.reduceMul, Int.reduceAdd, Int.reduceMul, Int.reduceSub, Int.reduceLT, Int.reduceLE, Int.reduceEq, Int.reduceNe, Nat.reduceLeDiff, Nat.reduceLT, Int.reduceNeg, Nat.reducePow, Nat.reduceMod, ByteArray.size, dB1, dB2]))
            refine goC_h [(1000, 0)] 2000 hrec (by simp) (by simp) ?_ ?_ ?_
            iterate 2 (case _ => simp (disch := omega) only [wP, wZ, undef, UInt8.reduceToNat, Nat.reduceOr, Nat.reduceAnd, Nat.reduceXor, Nat.reduceDiv, if_pos, if_neg, aStore, frz, AV.flat, ↓reduceIte, ne_eq, reduceCtorEq, Int.reduceToNat, Nat.reduceEqDiff, Nat.reduceAdd, Nat.reduceSub, Nat.reduceMul, Int.reduceAdd, Int.reduceMul, Int.reduceSub, Int.reduceLT, Int.reduceLE, Int.reduceEq, Int.reduceNe, Nat.reduceLeDiff, Nat.reduceLT, Int.reduceNeg, Nat.reducePow, Nat.reduceMod, ByteArray.size, renL_bC, cmpF])
            repeat (first | refine wA ?_ | refine wB ?_ | refine wC rfl ?_ | refine wD rfl ?_ | refine wE ?_ | refine wF (by omega) ?_ | ((first | refine wG ?_ | refine wH ?_ | refine wI ?_ | refine wJ ?_ | refine wK ?_ | refine wL ?_); simp (disch := omega) only [wP, wZ, undef, UInt8.reduceToNat, Nat.reduceOr, Nat.reduceAnd, Nat.reduceXor, Nat.reduceDiv, if_pos, if_neg, aStore, frz, AV.flat, ↓reduceIte, ne_eq, reduceCtorEq, Int.reduceToNat, Nat.reduceEqDiff, Nat.reduceAdd, Nat.reduceSub, Nat.reduceMul, Int.reduceAdd, Int.reduceMul, Int.reduceSub, Int.reduceLT, Int.reduceLE, Int.reduceEq, Int.reduceNe, Nat.reduceLeDiff, Nat.reduceLT, Int.reduceNeg, Nat.reducePow, Nat.reduceMod, ByteArray.size, renL_bC]))
            refine le_mk rfl ?_ ?_ ?_
            · show g1 + KM (X1.length + Y1.length) ≤ g2
              omega
            iterate 2 (case _ => simp (disch := omega) only [wP, wZ, undef, UInt8.reduceToNat, Nat.reduceOr, Nat.reduceAnd, Nat.reduceXor, Nat.reduceDiv, if_pos, if_neg, aStore, frz, AV.flat, ↓reduceIte, ne_eq, reduceCtorEq, Int.reduceToNat, Nat.reduceEqDiff, Nat.reduceAdd, Nat.reduceSub, Nat.reduceMul, Int.reduceAdd, Int.reduceMul, Int.reduceSub, Int.reduceLT, Int.reduceLE, Int.reduceEq, Int.reduceNe, Nat.reduceLeDiff, Nat.reduceLT, Int.reduceNeg, Nat.reducePow, Nat.reduceMod, ByteArray.size])
          · have dB2 : decide ((s : Int) < (mid : Int)) = false := decide_eq_false (by omega)
            have hY0 : Y1 = [] := List.eq_nil_of_length_eq_zero (by omega)
            have hsx := sortB_id sX1
            repeat (first | refine wA ?_ | refine wB ?_ | refine wC rfl ?_ | refine wD rfl ?_ | refine wE ?_ | refine wF (by omega) ?_ | ((first | refine wG ?_ | refine wH ?_ | refine wI ?_ | refine wJ ?_ | refine wK ?_ | refine wL ?_); simp (disch := omega) only [wP, wZ, undef, UInt8.reduceToNat, Nat.reduceOr, Nat.reduceAnd, Nat.reduceXor, Nat.reduceDiv, if_pos, if_neg, aStore, frz, AV.flat, ↓reduceIte, ne_eq, reduceCtorEq, Int.reduceToNat, Nat.reduceEqDiff, Nat.reduceAdd, Nat.reduceSub, Nat.reduceMul, Int.reduceAdd, Int.reduceMul, Int.reduceSub, Int.reduceLT, Int.reduceLE, Int.reduceEq, Int.reduceNe, Nat.reduceLeDiff, Nat.reduceLT, Int.reduceNeg, Nat.reducePow, Nat.reduceMod, ByteArray.size, dB1, dB2]))
            refine SWp.skip (le_mk rfl ?_ ?_ ?_)
            · show g1 ≤ g2
              omega
            iterate 2 (case _ => simp (disch := omega) only [wP, wZ, undef, UInt8.reduceToNat, Nat.reduceOr, Nat.reduceAnd, Nat.reduceXor, Nat.reduceDiv, if_pos, if_neg, aStore, frz, AV.flat, ↓reduceIte, ne_eq, reduceCtorEq, Int.reduceToNat, Nat.reduceEqDiff, Nat.reduceAdd, Nat.reduceSub, Nat.reduceMul, Int.reduceAdd, Int.reduceMul, Int.reduceSub, Int.reduceLT, Int.reduceLE, Int.reduceEq, Int.reduceNe, Nat.reduceLeDiff, Nat.reduceLT, Int.reduceNeg, Nat.reducePow, Nat.reduceMod, ByteArray.size, hY0, hsx, List.append_nil])
        · have dB1 : decide ((a : Int) < (s : Int)) = false := decide_eq_false (by omega)
          have hX0 : X1 = [] := List.eq_nil_of_length_eq_zero (by omega)
          have hsy := sortB_id sY1
          repeat (first | refine wA ?_ | refine wB ?_ | refine wC rfl ?_ | refine wD rfl ?_ | refine wE ?_ | refine wF (by omega) ?_ | ((first | refine wG ?_ | refine wH ?_ | refine wI ?_ | refine wJ ?_ | refine wK ?_ | refine wL ?_); simp (disch := omega) only [wP, wZ, undef, UInt8.reduceToNat, Nat.reduceOr, Nat.reduceAnd, Nat.reduceXor, Nat.reduceDiv, if_pos, if_neg, aStore, frz, AV.flat, ↓reduceIte, ne_eq, reduceCtorEq, Int.reduceToNat, Nat.reduceEqDiff, Nat.reduceAdd, Nat.reduceSub, Nat.reduceMul, Int.reduceAdd, Int.reduceMul, Int.reduceSub, Int.reduceLT, Int.reduceLE, Int.reduceEq, Int.reduceNe, Nat.reduceLeDiff, Nat.reduceLT, Int.reduceNeg, Nat.reducePow, Nat.reduceMod, ByteArray.size, dB1]))
          refine SWp.skip (le_mk rfl ?_ ?_ ?_)
          · show g1 ≤ g2
            omega
          iterate 2 (case _ => simp (disch := omega) only [wP, wZ, undef, UInt8.reduceToNat, Nat.reduceOr, Nat.reduceAnd, Nat.reduceXor, Nat.reduceDiv, if_pos, if_neg, aStore, frz, AV.flat, ↓reduceIte, ne_eq, reduceCtorEq, Int.reduceToNat, Nat.reduceEqDiff, Nat.reduceAdd, Nat.reduceSub, Nat.reduceMul, Int.reduceAdd, Int.reduceMul, Int.reduceSub, Int.reduceLT, Int.reduceLE, Int.reduceEq, Int.reduceNe, Nat.reduceLeDiff, Nat.reduceLT, Int.reduceNeg, Nat.reducePow, Nat.reduceMod, ByteArray.size, hX0, hsy, List.nil_append])
      have hfin : Pf ++ (sortB (X1 ++ Y1) ++ (sortB (X2 ++ Y2) ++ Tl)) = Pf ++ (sortB (X ++ Y) ++ Tl) := by rw [hcut]; simp
      by_cases ca : mid < e
      · have dC1 : decide ((mid : Int) < (e : Int)) = true := decide_eq_true (by omega)
        by_cases cb : e < b
        · have dC2 : decide ((e : Int) < (b : Int)) = true := decide_eq_true (by omega)
          have hrec := ih (X2.length + Y2.length) (by omega) (Pf ++ sortB (X1 ++ Y1)) X2 Y2 Tl N mid e b rfl (by rw [hN, hWl]; simp [length_sortB]; omega) hl (by simp [length_sortB]; omega) (by simp [length_sortB]; omega) (by omega) (by omega) (by omega) sX2 sY2
          simp only [List.append_assoc] at hrec
          rw [hfin] at hrec
          repeat (first | refine wA ?_ | refine wB ?_ | refine wC rfl ?_ | refine wD rfl ?_ | refine wE ?_ | refine wF (by omega) ?_ | ((first | refine wG ?_ | refine wH ?_ | refine wI ?_ | refine wJ ?_ | refine wK ?_ | refine wL ?_); simp (disch := omega) only [wP, wZ, undef, UInt8.reduceToNat, Nat.reduceOr, Nat.reduceAnd, Nat.reduceXor, Nat.reduceDiv, if_pos, if_neg, aStore, frz, AV.flat, ↓reduceIte, ne_eq, reduceCtorEq, Int.reduceToNat, Nat.reduceEqDiff, Nat.reduceAdd, Nat.reduceSub, Nat.reduceMul, Int.reduceAdd, Int.reduceMul, Int.reduceSub, Int.reduceLT, Int.reduceLE, Int.reduceEq, Int.reduceNe, Nat.reduceLeDiff, Nat.reduceLT, Int.reduceNeg, Nat.reducePow, Nat.reduceMod, ByteArray.size, dC1, dC2]))
          refine goC_h [(1000, 0)] 2000 hrec (by simp) (by simp) ?_ ?_ ?_
          iterate 2 (case _ => simp (disch := omega) only [wP, wZ, undef, UInt8.reduceToNat, Nat.reduceOr, Nat.reduceAnd, Nat.reduceXor, Nat.reduceDiv, if_pos, if_neg, aStore, frz, AV.flat, ↓reduceIte, ne_eq, reduceCtorEq, Int.reduceToNat, Nat.reduceEqDiff, Nat.reduceAdd, Nat.reduceSub, Nat.reduceMul, Int.reduceAdd, Int.reduceMul, Int.reduceSub, Int.reduceLT, Int.reduceLE, Int.reduceEq, Int.reduceNe, Nat.reduceLeDiff, Nat.reduceLT, Int.reduceNeg, Nat.reducePow, Nat.reduceMod, ByteArray.size, renL_bC, cmpF])
          repeat (first | refine wA ?_ | refine wB ?_ | refine wC rfl ?_ | refine wD rfl ?_ | refine wE ?_ | refine wF (by omega) ?_ | ((first | refine wG ?_ | refine wH ?_ | refine wI ?_ | refine wJ ?_ | refine wK ?_ | refine wL ?_); simp (disch := omega) only [wP, wZ, undef, UInt8.reduceToNat, Nat.reduceOr, Nat.reduceAnd, Nat.reduceXor, Nat.reduceDiv, if_pos, if_neg, aStore, frz, AV.flat, ↓reduceIte, ne_eq, reduceCtorEq, Int.reduceToNat, Nat.reduceEqDiff, Nat.reduceAdd, Nat.reduceSub, Nat.reduceMul, Int.reduceAdd, Int.reduceMul, Int.reduceSub, Int.reduceLT, Int.reduceLE, Int.reduceEq, Int.reduceNe, Nat.reduceLeDiff, Nat.reduceLT, Int.reduceNeg, Nat.reducePow, Nat.reduceMod, ByteArray.size, renL_bC, outOf_nil]))
          omega
        · have dC2 : decide ((e : Int) < (b : Int)) = false := decide_eq_false (by omega)
          have hY0 : Y2 = [] := List.eq_nil_of_length_eq_zero (by omega)
          have hsx := sortB_id sX2
          have hg : g2 ≤ KM n := by omega
          rw [hY0, List.append_nil, hsx] at hfin
          repeat (first | refine wA ?_ | refine wB ?_ | refine wC rfl ?_ | refine wD rfl ?_ | refine wE ?_ | refine wF (by omega) ?_ | ((first | refine wG ?_ | refine wH ?_ | refine wI ?_ | refine wJ ?_ | refine wK ?_ | refine wL ?_); simp (disch := omega) only [wP, wZ, undef, UInt8.reduceToNat, Nat.reduceOr, Nat.reduceAnd, Nat.reduceXor, Nat.reduceDiv, if_pos, if_neg, aStore, frz, AV.flat, ↓reduceIte, ne_eq, reduceCtorEq, Int.reduceToNat, Nat.reduceEqDiff, Nat.reduceAdd, Nat.reduceSub, Nat.reduceMul, Int.reduceAdd, Int.reduceMul, Int.reduceSub, Int.reduceLT, Int.reduceLE, Int.reduceEq, Int.reduceNe, Nat.reduceLeDiff, Nat.reduceLT, Int.reduceNeg, Nat.reducePow, Nat.reduceMod, ByteArray.size, dC1, dC2, outOf_nil, hY0, List.nil_append, hfin, hg]))
      · have dC1 : decide ((mid : Int) < (e : Int)) = false := decide_eq_false (by omega)
        have hX0 : X2 = [] := List.eq_nil_of_length_eq_zero (by omega)
        have hsy := sortB_id sY2
        have hg : g2 ≤ KM n := by omega
        rw [hX0, List.nil_append, hsy] at hfin
        repeat (first | refine wA ?_ | refine wB ?_ | refine wC rfl ?_ | refine wD rfl ?_ | refine wE ?_ | refine wF (by omega) ?_ | ((first | refine wG ?_ | refine wH ?_ | refine wI ?_ | refine wJ ?_ | refine wK ?_ | refine wL ?_); simp (disch := omega) only [wP, wZ, undef, UInt8.reduceToNat, Nat.reduceOr, Nat.reduceAnd, Nat.reduceXor, Nat.reduceDiv, if_pos, if_neg, aStore, frz, AV.flat, ↓reduceIte, ne_eq, reduceCtorEq, Int.reduceToNat, Nat.reduceEqDiff, Nat.reduceAdd, Nat.reduceSub, Nat.reduceMul, Int.reduceAdd, Int.reduceMul, Int.reduceSub, Int.reduceLT, Int.reduceLE, Int.reduceEq, Int.reduceNe, Nat.reduceLeDiff, Nat.reduceLT, Int.reduceNeg, Nat.reducePow, Nat.reduceMod, ByteArray.size, dC1, outOf_nil, hX0, List.nil_append, hfin, hg]))
  · have dm : decide ((m : Int) > (mid : Int)) = false := decide_eq_false (by omega)
    obtain ⟨s0, hs0⟩ : ∃ s0, s0 = a := ⟨_, rfl⟩
    obtain ⟨r0, hr0⟩ : ∃ r0, r0 = m := ⟨_, rfl⟩
    have b1 : a ≤ s0 := by omega
    have b2 : s0 ≤ r0 := by omega
    have b3 : r0 ≤ m := by omega
    have b4 : nn - s0 ≤ b := by omega
    have b5 : m ≤ nn - r0 := by omega
    have i1 : ∀ x ∈ X.take (s0 - a), ∀ y ∈ Y.drop (nn - s0 - m), x.1 ≤ y.1 := fun x hx => by
      rw [show s0 - a = 0 from by omega] at hx; simp at hx
    have i2 : ∀ y ∈ Y.take (nn - r0 - m), ∀ x ∈ X.drop (r0 - a), y.1 < x.1 := fun y _ x hx => by
      rw [List.drop_of_length_le (by omega)] at hx; simp at hx
    repeat (first | refine wA ?_ | refine wB ?_ | refine wC rfl ?_ | refine wD rfl ?_ | refine wE ?_ | refine wF (by omega) ?_ | ((first | refine wG ?_ | refine wH ?_ | refine wI ?_ | refine wJ ?_ | refine wK ?_ | refine wL ?_); simp (disch := omega) only [wP, wZ, undef, UInt8.reduceToNat, Nat.reduceOr, Nat.reduceAnd, Nat.reduceXor, Nat.reduceDiv, if_pos, if_neg, aStore, frz, AV.flat, ↓reduceIte, ne_eq, reduceCtorEq, Int.reduceToNat, Nat.reduceEqDiff, Nat.reduceAdd, Nat.reduceSub, Nat.reduceMul, Int.reduceAdd, Int.reduceMul, Int.reduceSub, Int.reduceLT, Int.reduceLE, Int.reduceEq, Int.reduceNe, Nat.reduceLeDiff, Nat.reduceLT, Int.reduceNeg, Nat.reducePow, Nat.reduceMod, ByteArray.size, d0, d00, emid, enn, dm, epp]))
    refine SWp.loop (α := Nat × Nat) (fun p => mk 220 1 [(0, .own 1000 0 (some 2) 0 N), (1, int a), (2, int m), (3, int b), (4, cmpF), (18, int mid), (19, int nn), (20, int p.1), (21, int p.2), (22, int pp)] [(1000, 0, .row false (bC W))])
      (fun p => a ≤ p.1 ∧ p.1 ≤ p.2 ∧ p.2 ≤ m ∧ nn - p.1 ≤ b ∧ m ≤ nn - p.2 ∧ (∀ x ∈ X.take (p.1 - a), ∀ y ∈ Y.drop (nn - p.1 - m), x.1 ≤ y.1) ∧ (∀ y ∈ Y.take (nn - p.2 - m), ∀ x ∈ X.drop (p.2 - a), y.1 < x.1)) (fun p => p.2 - p.1) (s0, r0) ⟨b1, b2, b3, b4, b5, i1, i2⟩ (le_mk rfl ?_ ?_ ?_) ?_
    · exact Nat.le_refl _
    iterate 2 (case _ => simp (disch := omega) only [wP, wZ, undef, UInt8.reduceToNat, Nat.reduceOr, Nat.reduceAnd, Nat.reduceXor, Nat.reduceDiv, if_pos, if_neg, aStore, frz, AV.flat, ↓reduceIte, ne_eq, reduceCtorEq, Int.reduceToNat, Nat.reduceEqDiff, Nat.reduceAdd, Nat.reduceSub, Nat.reduceMul, Int.reduceAdd, Int.reduceMul, Int.reduceSub, Int.reduceLT, Int.reduceLE, Int.reduceEq, Int.reduceNe, Nat.reduceLeDiff, Nat.reduceLT, Int.reduceNeg, Nat.reducePow, Nat.reduceMod, ByteArray.size, hs0, hr0])
    clear i1 i2 b1 b2 b3 b4 b5
    rintro ⟨s, r⟩ ⟨b1, b2, b3, b4, b5, i1, i2⟩ -
    simp only at b1 b2 b3 b4 b5 i1 i2
    repeat (first | refine wA ?_ | refine wB ?_ | refine wC rfl ?_ | refine wD rfl ?_ | refine wE ?_ | refine wF (by omega) ?_ | ((first | refine wG ?_ | refine wH ?_ | refine wI ?_ | refine wJ ?_ | refine wK ?_ | refine wL ?_); simp (disch := omega) only [wP, wZ, undef, UInt8.reduceToNat, Nat.reduceOr, Nat.reduceAnd, Nat.reduceXor, Nat.reduceDiv, if_pos, if_neg, aStore, frz, AV.flat, ↓reduceIte, ne_eq, reduceCtorEq, Int.reduceToNat, Nat.reduceEqDiff, Nat.reduceAdd, Nat.reduceSub, Nat.reduceMul, Int.reduceAdd, Int.reduceMul, Int.reduceSub, Int.reduceLT, Int.reduceLE, Int.reduceEq, Int.reduceNe, Nat.reduceLeDiff, Nat.reduceLT, Int.reduceNeg, Nat.reducePow, Nat.reduceMod, ByteArray.size]))
    refine SWp.cond rfl (fun h => ?_) (fun h => ?_)
    · simp only [decide_eq_true_eq] at h
      obtain ⟨q, hq⟩ : ∃ q, q = (s + r) / 2 := ⟨_, rfl⟩
      obtain ⟨e, he⟩ : ∃ e, e = pp - q := ⟨_, rfl⟩
      have eq1 : IntKind.i64.wrap ((IntKind.u64.wrap ((s : Int) + (r : Int))).fdiv (2 ^ 1)) = (q : Int) := by
        rw [wrap_u64_id3 (by omega) (by omega), show ((2 : Int) ^ 1) = 2 from rfl, Int.fdiv_eq_ediv_of_nonneg _ (by omega), wrap_i64_id (by omega) (by omega)]
        omega
      have eq2 : (pp : Int) - (q : Int) = (e : Int) := by omega
      obtain ⟨u, hu⟩ : ∃ u, u = q - a := ⟨_, rfl⟩
      obtain ⟨v, hv⟩ : ∃ v, v = e - m := ⟨_, rfl⟩
      have huX : u < X.length := by omega
      have hvY : v < Y.length := by omega
      have hql : q < W.length := by omega
      have hel : e < W.length := by omega
      have e1 := load_bC hql
      have e2 := load_bC hel
      have g1 : W.getD q (0, []) = X.getD u (0, []) := by
        rw [hW]
        simp only [List.getD]
        rw [List.getElem?_append_right (by omega), show q - Pf.length = u from by omega, List.getElem?_append_left huX]
      have g2 : W.getD e (0, []) = Y.getD v (0, []) := by
        rw [hW]
        simp only [List.getD]
        rw [List.getElem?_append_right (by omega), List.getElem?_append_right (by omega), show e - Pf.length - X.length = v from by omega, List.getElem?_append_left hvY]
      obtain ⟨x, hx⟩ : ∃ x, x = X.getD u (0, []) := ⟨_, rfl⟩
      obtain ⟨y, hy⟩ : ∃ y, y = Y.getD v (0, []) := ⟨_, rfl⟩
      rw [g1, ← hx] at e1
      rw [g2, ← hy] at e2
      have e3 : (bC W).length = N * 2 := by rw [length_bC, hN]
      have heN : e * 2 + 2 ≤ N * 2 := by omega
      have hqN : q * 2 + 2 ≤ N * 2 := by omega
      have x1 := srt_take hX huX
      have x2 := srt_drop hX huX
      have y1 := srt_take hY hvY
      have y2 := srt_drop hY hvY
      rw [← hx] at x1 x2
      rw [← hy] at y1 y2
      repeat (first | refine wA ?_ | refine wB ?_ | refine wC rfl ?_ | refine wD rfl ?_ | refine wE ?_ | refine wF (by omega) ?_ | ((first | refine wG ?_ | refine wH ?_ | refine wI ?_ | refine wJ ?_ | refine wK ?_ | refine wL ?_); simp (disch := omega) only [wP, wZ, undef, UInt8.reduceToNat, Nat.reduceOr, Nat.reduceAnd, Nat.reduceXor, Nat.reduceDiv, if_pos, if_neg, aStore, frz, AV.flat, ↓reduceIte, ne_eq, reduceCtorEq, Int.reduceToNat, Nat.reduceEqDiff, Nat.reduceAdd, Nat.reduceSub, Nat.reduceMul, Int.reduceAdd, Int.reduceMul, Int.reduceSub, Int.reduceLT, Int.reduceLE, Int.reduceEq, Int.reduceNe, Nat.reduceLeDiff, Nat.reduceLT, Int.reduceNeg, Nat.reducePow, Nat.reduceMod, ByteArray.size, eq1, eq2, e1, e2, e3]))
      refine goV_at n_huff_byCount rfl (by decide) ?_
      refine goC_p _ (.inl ⟨by simp only [AV.free, AV.free.freeL, nA, free_nA, Bool.and_self], huff_byCount_c (y.1 : Int) (x.1 : Int) _ _ (by simp only [AV.free, free_nA]) (by simp only [AV.free, free_nA])⟩) ?_
      by_cases c : y.1 < x.1
      · have dc : decide (cmpI (y.1 : Int) (x.1 : Int) < 0) = true := by
          unfold cmpI; rw [if_pos (by omega)]; rfl
        repeat (first | refine wA ?_ | refine wB ?_ | refine wC rfl ?_ | refine wD rfl ?_ | refine wE ?_ | refine wF (by omega) ?_ | ((first | refine wG ?_ | refine wH ?_ | refine wI ?_ | refine wJ ?_ | refine wK ?_ | refine wL ?_); simp (disch := omega) only [wP, wZ, undef, UInt8.reduceToNat, Nat.reduceOr, Nat.reduceAnd, Nat.reduceXor, Nat.reduceDiv, if_pos, if_neg, aStore, frz, AV.flat, ↓reduceIte, ne_eq, reduceCtorEq, Int.reduceToNat, Nat.reduceEqDiff, Nat.reduceAdd, Nat.reduceSub, Nat.reduceMul, Int.reduceAdd, Int.reduceMul, Int.reduceSub, Int.reduceLT, Int.reduceLE, Int.reduceEq, Int.reduceNe, Nat.reduceLeDiff, Nat.reduceLT, Int.reduceNeg, Nat.reducePow, Nat.reduceMod, ByteArray.size, dc]))
        refine At.of (s, q) ⟨b1, by simp only; omega, by simp only; omega, b4, by simp only; omega, i1, fun y' hy' x' hx' => ?_⟩ (by simp only; omega) rfl rfl (Nat.le_refl _) ?_ ?_
        · simp only at hy' hx'
          rw [show nn - q - m = v + 1 from by omega] at hy'
          rw [show q - a = u from by omega] at hx'
          have h1 := y1 y' hy'
          have h2 := x2 x' hx'
          omega
        · simp (disch := omega) only [wP, wZ, undef, UInt8.reduceToNat, Nat.reduceOr, Nat.reduceAnd, Nat.reduceXor, Nat.reduceDiv, if_pos, if_neg, aStore, frz, AV.flat, ↓reduceIte, ne_eq, reduceCtorEq, Int.reduceToNat, Nat.reduceEqDiff, Nat.reduceAdd, Nat.reduceSub, Nat.reduceMul, Int.reduceAdd, Int.reduceMul, Int.reduceSub, Int.reduceLT, Int.reduceLE, Int.reduceEq, Int.reduceNe, Nat.reduceLeDiff, Nat.reduceLT, Int.reduceNeg, Nat.reducePow, Nat.reduceMod, ByteArray.size]
          try omega
        · simp (disch := omega) only [wP, wZ, undef, UInt8.reduceToNat, Nat.reduceOr, Nat.reduceAnd, Nat.reduceXor, Nat.reduceDiv, if_pos, if_neg, aStore, frz, AV.flat, ↓reduceIte, ne_eq, reduceCtorEq, Int.reduceToNat, Nat.reduceEqDiff, Nat.reduceAdd, Nat.reduceSub, Nat.reduceMul, Int.reduceAdd, Int.reduceMul, Int.reduceSub, Int.reduceLT, Int.reduceLE, Int.reduceEq, Int.reduceNe, Nat.reduceLeDiff, Nat.reduceLT, Int.reduceNeg, Nat.reducePow, Nat.reduceMod, ByteArray.size]
      · have dc : decide (cmpI (y.1 : Int) (x.1 : Int) < 0) = false := by
          unfold cmpI; rw [if_neg (by omega)]; split <;> rfl
        repeat (first | refine wA ?_ | refine wB ?_ | refine wC rfl ?_ | refine wD rfl ?_ | refine wE ?_ | refine wF (by omega) ?_ | ((first | refine wG ?_ | refine wH ?_ | refine wI ?_ | refine wJ ?_ | refine wK ?_ | refine wL ?_); simp (disch := omega) only [wP, wZ, undef, UInt8.reduceToNat, Nat.reduceOr, Nat.reduceAnd, Nat.reduceXor, Nat.reduceDiv, if_pos, if_neg, aStore, frz, AV.flat, ↓reduceIte, ne_eq, reduceCtorEq, Int.reduceToNat, Nat.reduceEqDiff, Nat.reduceAdd, Nat.reduceSub, Nat.reduceMul, Int.reduceAdd, Int.reduceMul, Int.reduceSub, Int.reduceLT, Int.reduceLE, Int.reduceEq, Int.reduceNe, Nat.reduceLeDiff, Nat.reduceLT, Int.reduceNeg, Nat.reducePow, Nat.reduceMod, ByteArray.size, dc]))
        refine At.of (q + 1, r) ⟨by simp only; omega, by simp only; omega, b3, by simp only; omega, b5, fun x' hx' y' hy' => ?_, i2⟩ (by simp only; omega) rfl rfl (Nat.le_refl _) ?_ ?_
        · simp only at hy' hx'
          rw [show nn - (q + 1) - m = v from by omega] at hy'
          rw [show q + 1 - a = u + 1 from by omega] at hx'
          have h1 := x1 x' hx'
          have h2 := y2 y' hy'
          omega
        · simp (disch := omega) only [wP, wZ, undef, UInt8.reduceToNat, Nat.reduceOr, Nat.reduceAnd, Nat.reduceXor, Nat.reduceDiv, if_pos, if_neg, aStore, frz, AV.flat, ↓reduceIte, ne_eq, reduceCtorEq, Int.reduceToNat, Nat.reduceEqDiff, Nat.reduceAdd, Nat.reduceSub, Nat.reduceMul, Int.reduceAdd, Int.reduceMul, Int.reduceSub, Int.reduceLT, Int.reduceLE, Int.reduceEq, Int.reduceNe, Nat.reduceLeDiff, Nat.reduceLT, Int.reduceNeg, Nat.reducePow, Nat.reduceMod, ByteArray.size]
          try omega
        · simp (disch := omega) only [wP, wZ, undef, UInt8.reduceToNat, Nat.reduceOr, Nat.reduceAnd, Nat.reduceXor, Nat.reduceDiv, if_pos, if_neg, aStore, frz, AV.flat, ↓reduceIte, ne_eq, reduceCtorEq, Int.reduceToNat, Nat.reduceEqDiff, Nat.reduceAdd, Nat.reduceSub, Nat.reduceMul, Int.reduceAdd, Int.reduceMul, Int.reduceSub, Int.reduceLT, Int.reduceLE, Int.reduceEq, Int.reduceNe, Nat.reduceLeDiff, Nat.reduceLT, Int.reduceNeg, Nat.reducePow, Nat.reduceMod, ByteArray.size]
    · simp only [decide_eq_false_iff_not] at h
      obtain rfl : s = r := by omega
      obtain ⟨X1, hX1'⟩ : ∃ X1, X1 = X.take (s - a) := ⟨_, rfl⟩
      obtain ⟨X2, hX2'⟩ : ∃ X2, X2 = X.drop (s - a) := ⟨_, rfl⟩
      obtain ⟨Y1, hY1'⟩ : ∃ Y1, Y1 = Y.take (nn - s - m) := ⟨_, rfl⟩
      obtain ⟨Y2, hY2'⟩ : ∃ Y2, Y2 = Y.drop (nn - s - m) := ⟨_, rfl⟩
      rw [← hX1', ← hY2'] at i1
      rw [← hY1', ← hX2'] at i2
      have hXX : X = X1 ++ X2 := by rw [hX1', hX2', List.take_append_drop]
      have hYY : Y = Y1 ++ Y2 := by rw [hY1', hY2', List.take_append_drop]
      obtain ⟨e, he⟩ : ∃ e, e = nn - s := ⟨_, rfl⟩
      have l1 : X1.length = s - a := by rw [hX1', List.length_take]; omega
      have l2 : X2.length = m - s := by rw [hX2', List.length_drop]; omega
      have l3 : Y1.length = e - m := by rw [hY1', List.length_take]; omega
      have l4 : Y2.length = b - e := by rw [hY2', List.length_drop]; omega
      have eens : (nn : Int) - (s : Int) = (e : Int) := by omega
      have hWl : W = Pf ++ (X1 ++ (X2 ++ (Y1 ++ (Y2 ++ Tl)))) := by rw [hW, hXX, hYY]; simp
      have sX := hX
      have sY := hY
      rw [hXX] at sX
      rw [hYY] at sY
      have hcut := sortB_cut sX sY i1 i2
      rw [← hXX, ← hYY] at hcut
      obtain ⟨sX1, sX2, _⟩ := List.pairwise_append.1 sX
      obtain ⟨sY1, sY2, _⟩ := List.pairwise_append.1 sY
      iterate 4 (first | refine wA ?_ | refine wB ?_ | refine wC rfl ?_ | refine wD rfl ?_ | refine wE ?_ | refine wF (by omega) ?_ | ((first | refine wG ?_ | refine wH ?_ | refine wI ?_ | refine wJ ?_ | refine wK ?_ | refine wL ?_); simp (disch := omega) only [wP, wZ, undef, UInt8.reduceToNat, Nat.reduceOr, Nat.reduceAnd, Nat.reduceXor, Nat.reduceDiv, if_pos, if_neg, aStore, frz, AV.flat, ↓reduceIte, ne_eq, reduceCtorEq, Int.reduceToNat, Nat.reduceEqDiff, Nat.reduceAdd, Nat.reduceSub, Nat.reduceMul, Int.reduceAdd, Int.reduceMul, Int.reduceSub, Int.reduceLT, Int.reduceLE, Int.reduceEq, Int.reduceNe, Nat.reduceLeDiff, Nat.reduceLT, Int.reduceNeg, Nat.reducePow, Nat.reduceMod, ByteArray.size, eens]))
      have lp : X1.length + Y1.length = mid - a := by omega
      have lq : X2.length + Y2.length = b - mid := by omega
      have hKK := KM_add (p := X1.length + Y1.length) (q := X2.length + Y2.length) (by omega) (by omega)
      rw [show X1.length + Y1.length + (X2.length + Y2.length) = n from by omega] at hKK
      obtain ⟨g1, hg1⟩ : ∃ g1, g1 = 1 + (2 + (X2.length + Y1.length)) := ⟨_, rfl⟩
      refine SWp.toT (F := mk 220 g1 [(0, .own 1000 0 (some 2) 0 N), (1, int a), (2, int m), (3, int b), (4, cmpF), (18, int mid), (20, int s), (24, int e)] [(1000, 0, .row false (bC (Pf ++ (X1 ++ (Y1 ++ (X2 ++ (Y2 ++ Tl)))))))]) ?_ ?_
      · by_cases ca : s < m
        · have dA1 : decide ((s : Int) < (m : Int)) = true := decide_eq_true (by omega)
          by_cases cb : m < e
          · have dA2 : decide ((m : Int) < (e : Int)) = true := decide_eq_true (by omega)
            have hrot := slices_rotate_h (Pf ++ X1) X2 Y1 (Y2 ++ Tl) N s m e (by rw [hN, hWl]; simp) hl (by simp; omega) (by simp; omega) (by simp; omega) (by omega) (by omega)
            simp only [List.append_assoc] at hrot
            rw [← hWl] at hrot
            repeat (first | refine wA ?_ | refine wB ?_ | refine wC rfl ?_ | refine wD rfl ?_ | refine wE ?_ | refine wF (by omega) ?_ | ((first | refine wG ?_ | refine wH ?_ | refine wI ?_ | refine wJ ?_ | refine wK ?_ | refine wL ?_); simp (disch := omega) only [wP, wZ, undef, UInt8.reduceToNat, Nat.reduceOr, Nat.reduceAnd, Nat.reduceXor, Nat.reduceDiv, if_pos, if_neg, aStore, frz, AV.flat, ↓reduceIte, ne_eq, reduceCtorEq, Int.reduceToNat, Nat.reduceEqDiff, Nat.reduceAdd, Nat.reduceSub, Nat.reduceMul, Int.reduceAdd, Int.reduceMul, Int.reduceSub, Int.reduceLT, Int.reduceLE, Int.reduceEq, Int.reduceNe, Nat.reduceLeDiff, Nat.reduceLT, Int.reduceNeg, Nat.reducePow, Nat.reduceMod, ByteArray.size, dA1, dA2]))
            refine goC_h [(1000, 0)] 2000 hrot (by simp) (by simp) ?_ ?_ ?_
            iterate 2 (case _ => simp (disch := omega) only [wP, wZ, undef, UInt8.reduceToNat, Nat.reduceOr, Nat.reduceAnd, Nat.reduceXor, Nat.reduceDiv, if_pos, if_neg, aStore, frz, AV.flat, ↓reduceIte, ne_eq, reduceCtorEq, Int.reduceToNat, Nat.reduceEqDiff, Nat.reduceAdd, Nat.reduceSub, Nat.reduceMul, Int.reduceAdd, Int.reduceMul, Int.reduceSub, Int.reduceLT, Int.reduceLE, Int.reduceEq, Int.reduceNe, Nat.reduceLeDiff, Nat.reduceLT, Int.reduceNeg, Nat.reducePow, Nat.reduceMod, ByteArray.size, renL_bC, cmpF])
            repeat (first | refine wA ?_ | refine wB ?_ | refine wC rfl ?_ | refine wD rfl ?_ | refine wE ?_ | refine wF (by omega) ?_ | ((first | refine wG ?_ | refine wH ?_ | refine wI ?_ | refine wJ ?_ | refine wK ?_ | refine wL ?_); simp (disch := omega) only [wP, wZ, undef, UInt8.reduceToNat, Nat.reduceOr, Nat.reduceAnd, Nat.reduceXor, Nat.reduceDiv, if_pos, if_neg, aStore, frz, AV.flat, ↓reduceIte, ne_eq, reduceCtorEq, Int.reduceToNat, Nat.reduceEqDiff, Nat.reduceAdd, Nat.reduceSub, Nat.reduceMul, Int.reduceAdd, Int.reduceMul, Int.reduceSub, Int.reduceLT, Int.reduceLE, Int.reduceEq, Int.reduceNe, Nat.reduceLeDiff, Nat.reduceLT, Int.reduceNeg, Nat.reducePow, Nat.reduceMod, ByteArray.size, renL_bC]))
            refine le_mk rfl ?_ ?_ ?_
            · show 1 + (2 + (X2.length + Y1.length)) ≤ g1
              omega
            iterate 2 (case _ => simp (disch := omega) only [wP, wZ, undef, UInt8.reduceToNat, Nat.reduceOr, Nat.reduceAnd, Nat.reduceXor, Nat.reduceDiv, if_pos, if_neg, aStore, frz, AV.flat, ↓reduceIte, ne_eq, reduceCtorEq, Int.reduceToNat, Nat.reduceEqDiff, Nat.reduceAdd, Nat.reduceSub, Nat.reduceMul, Int.reduceAdd, Int.reduceMul, Int.reduceSub, Int.reduceLT, Int.reduceLE, Int.reduceEq, Int.reduceNe, Nat.reduceLeDiff, Nat.reduceLT, Int.reduceNeg, Nat.reducePow, Nat.reduceMod, ByteArray.size])
          · have dA2 : decide ((m : Int) < (e : Int)) = false := decide_eq_false (by omega)
            have hY0 : Y1 = [] := List.eq_nil_of_length_eq_zero (by omega)
            repeat (first | refine wA ?_ | refine wB ?_ | refine wC rfl ?_ | refine wD rfl ?_ | refine wE ?_ | refine wF (by omega) ?_ | ((first | refine wG ?_ | refine wH ?_ | refine wI ?_ | refine wJ ?_ | refine wK ?_ | refine wL ?_); simp (disch := omega) only [wP, wZ, undef, UInt8.reduceToNat, Nat.reduceOr, Nat.reduceAnd, Nat.reduceXor, Nat.reduceDiv, if_pos, if_neg, aStore, frz, AV.flat, ↓reduceIte, ne_eq, reduceCtorEq, Int.reduceToNat, Nat.reduceEqDiff, Nat.reduceAdd, Nat.reduceSub, Nat.reduceMul, Int.reduceAdd, Int.reduceMul, Int.reduceSub, Int.reduceLT, Int.reduceLE, Int.reduceEq, Int.reduceNe, Nat.reduceLeDiff, Nat.reduceLT, Int.reduceNeg, Nat.reducePow, Nat.reduceMod, ByteArray.size, dA1, dA2]))
            refine SWp.skip (le_mk rfl ?_ ?_ ?_)
            · show 1 ≤ g1
              omega
            iterate 2 (case _ => simp (disch := omega) only [wP, wZ, undef, UInt8.reduceToNat, Nat.reduceOr, Nat.reduceAnd, Nat.reduceXor, Nat.reduceDiv, if_pos, if_neg, aStore, frz, AV.flat, ↓reduceIte, ne_eq, reduceCtorEq, Int.reduceToNat, Nat.reduceEqDiff, Nat.reduceAdd, Nat.reduceSub, Nat.reduceMul, Int.reduceAdd, Int.reduceMul, Int.reduceSub, Int.reduceLT, Int.reduceLE, Int.reduceEq, Int.reduceNe, Nat.reduceLeDiff, Nat.reduceLT, Int.reduceNeg, Nat.reducePow, Nat.reduceMod, ByteArray.size, hWl, hY0])
        · have dA1 : decide ((s : Int) < (m : Int)) = false := decide_eq_false (by omega)
          have hX0 : X2 = [] := List.eq_nil_of_length_eq_zero (by omega)
          repeat (first | refine wA ?_ | refine wB ?_ | refine wC rfl ?_ | refine wD rfl ?_ | refine wE ?_ | refine wF (by omega) ?_ | ((first | refine wG ?_ | refine wH ?_ | refine wI ?_ | refine wJ ?_ | refine wK ?_ | refine wL ?_); simp (disch := omega) only [wP, wZ, undef, UInt8.reduceToNat, Nat.reduceOr, Nat.reduceAnd, Nat.reduceXor, Nat.reduceDiv, if_pos, if_neg, aStore, frz, AV.flat, ↓reduceIte, ne_eq, reduceCtorEq, Int.reduceToNat, Nat.reduceEqDiff, Nat.reduceAdd, Nat.reduceSub, Nat.reduceMul, Int.reduceAdd, Int.reduceMul, Int.reduceSub, Int.reduceLT, Int.reduceLE, Int.reduceEq, Int.reduceNe, Nat.reduceLeDiff, Nat.reduceLT, Int.reduceNeg, Nat.reducePow, Nat.reduceMod, ByteArray.size, dA1]))
          refine SWp.skip (le_mk rfl ?_ ?_ ?_)
          · show 1 ≤ g1
            omega
          iterate 2 (case _ => simp (disch := omega) only [wP, wZ, undef, UInt8.reduceToNat, Nat.reduceOr, Nat.reduceAnd, Nat.reduceXor, Nat.reduceDiv, if_pos, if_neg, aStore, frz, AV.flat, ↓reduceIte, ne_eq, reduceCtorEq, Int.reduceToNat, Nat.reduceEqDiff, Nat.reduceAdd, Nat.reduceSub, Nat.reduceMul, Int.reduceAdd, Int.reduceMul, Int.reduceSub, Int.reduceLT, Int.reduceLE, Int.reduceEq, Int.reduceNe, Nat.reduceLeDiff, Nat.reduceLT, Int.reduceNeg, Nat.reducePow, Nat.reduceMod, ByteArray.size, hWl, hX0])
      obtain ⟨g2, hg2⟩ : ∃ g2, g2 = g1 + KM (X1.length + Y1.length) := ⟨_, rfl⟩
      refine SWp.to (F := mk 220 g2 [(0, .own 1000 0 (some 2) 0 N), (1, int a), (2, int m), (3, int b), (4, cmpF), (18, int mid), (20, int s), (24, int e)] [(1000, 0, .row false (bC (Pf ++ (sortB (X1 ++ Y1) ++ (X2 ++ (Y2 ++ Tl))))))]) ?_ ?_
      · by_cases ca : a < s
        · have dB1 : decide ((a : Int) < (s : Int)) = true := decide_eq_true (by omega)
          by_cases cb : s < mid
          · have dB2 : decide ((s : Int) < (mid : Int)) = true := decide_eq_true (by omega)
            have hrec := ih (X1.length + Y1.length) (by omega) Pf X1 Y1 (X2 ++ (Y2 ++ Tl)) N a s mid rfl (by rw [hN, hWl]; simp; omega) hl ha (by omega) (by omega) (by omega) (by omega) sX1 sY1
            repeat (first | refine wA ?_ | refine wB ?_ | refine wC rfl ?_ | refine wD rfl ?_ | refine wE ?_ | refine wF (by omega) ?_ | ((first | refine wG ?_ | refine wH ?_ | refine wI ?_ | refine wJ ?_ | refine wK ?_ | refine wL ?_); simp (disch := omega) only [wP, wZ, undef, UInt8.reduceToNat, Nat.reduceOr, Nat.reduceAnd, Nat.reduceXor, Nat.reduceDiv, if_pos, if_neg, aStore, frz, AV.flat, ↓reduceIte, ne_eq, reduceCtorEq, Int.reduceToNat, Nat.reduceEqDiff, Nat.reduceAdd, Nat.reduceSub, Nat.reduceMul, Int.reduceAdd, Int.reduceMul, Int.reduceSub, Int.reduceLT, Int.reduceLE, Int.reduceEq, Int.reduceNe, Nat.reduceLeDiff, Nat.reduceLT, Int.reduceNeg, Nat.reducePow, Nat.reduceMod, ByteArray.size, dB1, dB2]))
            refine goC_h [(1000, 0)] 2000 hrec (by simp) (by simp) ?_ ?_ ?_
            iterate 2 (case _ => simp (disch := omega) only [wP, wZ, undef, UInt8.reduceToNat, Nat.reduceOr, Nat.reduceAnd, Nat.reduceXor, Nat.reduceDiv, if_pos, if_neg, aStore, frz, AV.flat, ↓reduceIte, ne_eq, reduceCtorEq, Int.reduceToNat, Nat.reduceEqDiff, Nat.reduceAdd, Nat.reduceSub, Nat.reduceMul, Int.reduceAdd, Int.reduceMul, Int.reduceSub, Int.reduceLT, Int.reduceLE, Int.reduceEq, Int.reduceNe, Nat.reduceLeDiff, Nat.reduceLT, Int.reduceNeg, Nat.reducePow, Nat.reduceMod, ByteArray.size, renL_bC, cmpF])
            repeat (first | refine wA ?_ | refine wB ?_ | refine wC rfl ?_ | refine wD rfl ?_ | refine wE ?_ | refine wF (by omega) ?_ | ((first | refine wG ?_ | refine wH ?_ | refine wI ?_ | refine wJ ?_ | refine wK ?_ | refine wL ?_); simp (disch := omega) only [wP, wZ, undef, UInt8.reduceToNat, Nat.reduceOr, Nat.reduceAnd, Nat.reduceXor, Nat.reduceDiv, if_pos, if_neg, aStore, frz, AV.flat, ↓reduceIte, ne_eq, reduceCtorEq, Int.reduceToNat, Nat.reduceEqDiff, Nat.reduceAdd, Nat.reduceSub, Nat.reduceMul, Int.reduceAdd, Int.reduceMul, Int.reduceSub, Int.reduceLT, Int.reduceLE, Int.reduceEq, Int.reduceNe, Nat.reduceLeDiff, Nat.reduceLT, Int.reduceNeg, Nat.reducePow, Nat.reduceMod, ByteArray.size, renL_bC]))
            refine le_mk rfl ?_ ?_ ?_
            · show g1 + KM (X1.length + Y1.length) ≤ g2
              omega
            iterate 2 (case _ => simp (disch := omega) only [wP, wZ, undef, UInt8.reduceToNat, Nat.reduceOr, Nat.reduceAnd, Nat.reduceXor, Nat.reduceDiv, if_pos, if_neg, aStore, frz, AV.flat, ↓reduceIte, ne_eq, reduceCtorEq, Int.reduceToNat, Nat.reduceEqDiff, Nat.reduceAdd, Nat.reduceSub, Nat.reduceMul, Int.reduceAdd, Int.reduceMul, Int.reduceSub, Int.reduceLT, Int.reduceLE, Int.reduceEq, Int.reduceNe, Nat.reduceLeDiff, Nat.reduceLT, Int.reduceNeg, Nat.reducePow, Nat.reduceMod, ByteArray.size])
          · have dB2 : decide ((s : Int) < (mid : Int)) = false := decide_eq_false (by omega)
            have hY0 : Y1 = [] := List.eq_nil_of_length_eq_zero (by omega)
            have hsx := sortB_id sX1
            repeat (first | refine wA ?_ | refine wB ?_ | refine wC rfl ?_ | refine wD rfl ?_ | refine wE ?_ | refine wF (by omega) ?_ | ((first | refine wG ?_ | refine wH ?_ | refine wI ?_ | refine wJ ?_ | refine wK ?_ | refine wL ?_); simp (disch := omega) only [wP, wZ, undef, UInt8.reduceToNat, Nat.reduceOr, Nat.reduceAnd, Nat.reduceXor, Nat.reduceDiv, if_pos, if_neg, aStore, frz, AV.flat, ↓reduceIte, ne_eq, reduceCtorEq, Int.reduceToNat, Nat.reduceEqDiff, Nat.reduceAdd, Nat.reduceSub, Nat.reduceMul, Int.reduceAdd, Int.reduceMul, Int.reduceSub, Int.reduceLT, Int.reduceLE, Int.reduceEq, Int.reduceNe, Nat.reduceLeDiff, Nat.reduceLT, Int.reduceNeg, Nat.reducePow, Nat.reduceMod, ByteArray.size, dB1, dB2]))
            refine SWp.skip (le_mk rfl ?_ ?_ ?_)
            · show g1 ≤ g2
              omega
            iterate 2 (case _ => simp (disch := omega) only [wP, wZ, undef, UInt8.reduceToNat, Nat.reduceOr, Nat.reduceAnd, Nat.reduceXor, Nat.reduceDiv, if_pos, if_neg, aStore, frz, AV.flat, ↓reduceIte, ne_eq, reduceCtorEq, Int.reduceToNat, Nat.reduceEqDiff, Nat.reduceAdd, Nat.reduceSub, Nat.reduceMul, Int.reduceAdd, Int.reduceMul, Int.reduceSub, Int.reduceLT, Int.reduceLE, Int.reduceEq, Int.reduceNe, Nat.reduceLeDiff, Nat.reduceLT, Int.reduceNeg, Nat.reducePow, Nat.reduceMod, ByteArray.size, hY0, hsx, List.append_nil])
        · have dB1 : decide ((a : Int) < (s : Int)) = false := decide_eq_false (by omega)
          have hX0 : X1 = [] := List.eq_nil_of_length_eq_zero (by omega)
          have hsy := sortB_id sY1
          repeat (first | refine wA ?_ | refine wB ?_ | refine wC rfl ?_ | refine wD rfl ?_ | refine wE ?_ | refine wF (by omega) ?_ | ((first | refine wG ?_ | refine wH ?_ | refine wI ?_ | refine wJ ?_ | refine wK ?_ | refine wL ?_); simp (disch := omega) only [wP, wZ, undef, UInt8.reduceToNat, Nat.reduceOr, Nat.reduceAnd, Nat.reduceXor, Nat.reduceDiv, if_pos, if_neg, aStore, frz, AV.flat, ↓reduceIte, ne_eq, reduceCtorEq, Int.reduceToNat, Nat.reduceEqDiff, Nat.reduceAdd, Nat.reduceSub, Nat.reduceMul, Int.reduceAdd, Int.reduceMul, Int.reduceSub, Int.reduceLT, Int.reduceLE, Int.reduceEq, Int.reduceNe, Nat.reduceLeDiff, Nat.reduceLT, Int.reduceNeg, Nat.reducePow, Nat.reduceMod, ByteArray.size, dB1]))
          refine SWp.skip (le_mk rfl ?_ ?_ ?_)
          · show g1 ≤ g2
            omega
          iterate 2 (case _ => simp (disch := omega) only [wP, wZ, undef, UInt8.reduceToNat, Nat.reduceOr, Nat.reduceAnd, Nat.reduceXor, Nat.reduceDiv, if_pos, if_neg, aStore, frz, AV.flat, ↓reduceIte, ne_eq, reduceCtorEq, Int.reduceToNat, Nat.reduceEqDiff, Nat.reduceAdd, Nat.reduceSub, Nat.reduceMul, Int.reduceAdd, Int.reduceMul, Int.reduceSub, Int.reduceLT, Int.reduceLE, Int.reduceEq, Int.reduceNe, Nat.reduceLeDiff, Nat.reduceLT, Int.reduceNeg, Nat.reducePow, Nat.reduceMod, ByteArray.size, hX0, hsy, List.nil_append])
      have hfin : Pf ++ (sortB (X1 ++ Y1) ++ (sortB (X2 ++ Y2) ++ Tl)) = Pf ++ (sortB (X ++ Y) ++ Tl) := by rw [hcut]; simp
      by_cases ca : mid < e
      · have dC1 : decide ((mid : Int) < (e : Int)) = true := decide_eq_true (by omega)
        by_cases cb : e < b
        · have dC2 : decide ((e : Int) < (b : Int)) = true := decide_eq_true (by omega)
          have hrec := ih (X2.length + Y2.length) (by omega) (Pf ++ sortB (X1 ++ Y1)) X2 Y2 Tl N mid e b rfl (by rw [hN, hWl]; simp [length_sortB]; omega) hl (by simp [length_sortB]; omega) (by simp [length_sortB]; omega) (by omega) (by omega) (by omega) sX2 sY2
          simp only [List.append_assoc] at hrec
          rw [hfin] at hrec
          repeat (first | refine wA ?_ | refine wB ?_ | refine wC rfl ?_ | refine wD rfl ?_ | refine wE ?_ | refine wF (by omega) ?_ | ((first | refine wG ?_ | refine wH ?_ | refine wI ?_ | refine wJ ?_ | refine wK ?_ | refine wL ?_); simp (disch := omega) only [wP, wZ, undef, UInt8.reduceToNat, Nat.reduceOr, Nat.reduceAnd, Nat.reduceXor, Nat.reduceDiv, if_pos, if_neg, aStore, frz, AV.flat, ↓reduceIte, ne_eq, reduceCtorEq, Int.reduceToNat, Nat.reduceEqDiff, Nat.reduceAdd, Nat.reduceSub, Nat.reduceMul, Int.reduceAdd, Int.reduceMul, Int.reduceSub, Int.reduceLT, Int.reduceLE, Int.reduceEq, Int.reduceNe, Nat.reduceLeDiff, Nat.reduceLT, Int.reduceNeg, Nat.reducePow, Nat.reduceMod, ByteArray.size, dC1, dC2]))
          refine goC_h [(1000, 0)] 2000 hrec (by simp) (by simp) ?_ ?_ ?_
          iterate 2 (case _ => simp (disch := omega) only [wP, wZ, undef, UInt8.reduceToNat, Nat.reduceOr, Nat.reduceAnd, Nat.reduceXor, Nat.reduceDiv, if_pos, if_neg, aStore, frz, AV.flat, ↓reduceIte, ne_eq, reduceCtorEq, Int.reduceToNat, Nat.reduceEqDiff, Nat.reduceAdd, Nat.reduceSub, Nat.reduceMul, Int.reduceAdd, Int.reduceMul, Int.reduceSub, Int.reduceLT, Int.reduceLE, Int.reduceEq, Int.reduceNe, Nat.reduceLeDiff, Nat.reduceLT, Int.reduceNeg, Nat.reducePow, Nat.reduceMod, ByteArray.size, renL_bC, cmpF])
          repeat (first | refine wA ?_ | refine wB ?_ | refine wC rfl ?_ | refine wD rfl ?_ | refine wE ?_ | refine wF (by omega) ?_ | ((first | refine wG ?_ | refine wH ?_ | refine wI ?_ | refine wJ ?_ | refine wK ?_ | refine wL ?_); simp (disch := omega) only [wP, wZ, undef, UInt8.reduceToNat, Nat.reduceOr, Nat.reduceAnd, Nat.reduceXor, Nat.reduceDiv, if_pos, if_neg, aStore, frz, AV.flat, ↓reduceIte, ne_eq, reduceCtorEq, Int.reduceToNat, Nat.reduceEqDiff, Nat.reduceAdd, Nat.reduceSub, Nat.reduceMul, Int.reduceAdd, Int.reduceMul, Int.reduceSub, Int.reduceLT, Int.reduceLE, Int.reduceEq, Int.reduceNe, Nat.reduceLeDiff, Nat.reduceLT, Int.reduceNeg, Nat.reducePow, Nat.reduceMod, ByteArray.size, renL_bC, outOf_nil]))
          omega
        · have dC2 : decide ((e : Int) < (b : Int)) = false := decide_eq_false (by omega)
          have hY0 : Y2 = [] := List.eq_nil_of_length_eq_zero (by omega)
          have hsx := sortB_id sX2
          have hg : g2 ≤ KM n := by omega
          rw [hY0, List.append_nil, hsx] at hfin
          repeat (first | refine wA ?_ | refine wB ?_ | refine wC rfl ?_ | refine wD rfl ?_ | refine wE ?_ | refine wF (by omega) ?_ | ((first | refine wG ?_ | refine wH ?_ | refine wI ?_ | refine wJ ?_ | refine wK ?_ | refine wL ?_); simp (disch := omega) only [wP, wZ, undef, UInt8.reduceToNat, Nat.reduceOr, Nat.reduceAnd, Nat.reduceXor, Nat.reduceDiv, if_pos, if_neg, aStore, frz, AV.flat, ↓reduceIte, ne_eq, reduceCtorEq, Int.reduceToNat, Nat.reduceEqDiff, Nat.reduceAdd, Nat.reduceSub, Nat.reduceMul, Int.reduceAdd, Int.reduceMul, Int.reduceSub, Int.reduceLT, Int.reduceLE, Int.reduceEq, Int.reduceNe, Nat.reduceLeDiff, Nat.reduceLT, Int.reduceNeg, Nat.reducePow, Nat.reduceMod, ByteArray.size, dC1, dC2, outOf_nil, hY0, List.nil_append, hfin, hg]))
      · have dC1 : decide ((mid : Int) < (e : Int)) = false := decide_eq_false (by omega)
        have hX0 : X2 = [] := List.eq_nil_of_length_eq_zero (by omega)
        have hsy := sortB_id sY2
        have hg : g2 ≤ KM n := by omega
        rw [hX0, List.nil_append, hsy] at hfin
        repeat (first | refine wA ?_ | refine wB ?_ | refine wC rfl ?_ | refine wD rfl ?_ | refine wE ?_ | refine wF (by omega) ?_ | ((first | refine wG ?_ | refine wH ?_ | refine wI ?_ | refine wJ ?_ | refine wK ?_ | refine wL ?_); simp (disch := omega) only [wP, wZ, undef, UInt8.reduceToNat, Nat.reduceOr, Nat.reduceAnd, Nat.reduceXor, Nat.reduceDiv, if_pos, if_neg, aStore, frz, AV.flat, ↓reduceIte, ne_eq, reduceCtorEq, Int.reduceToNat, Nat.reduceEqDiff, Nat.reduceAdd, Nat.reduceSub, Nat.reduceMul, Int.reduceAdd, Int.reduceMul, Int.reduceSub, Int.reduceLT, Int.reduceLE, Int.reduceEq, Int.reduceNe, Nat.reduceLeDiff, Nat.reduceLT, Int.reduceNeg, Nat.reducePow, Nat.reduceMod, ByteArray.size, dC1, outOf_nil, hX0, List.nil_append, hfin, hg]))
end Go.Proofs.YtbmppmdklappiaaDoor.Aw
namespace Go.Proofs.YtbmppmdklappiaaDoor.Aw
open Go
set_option linter.unusedSimpArgs false
set_option linter.unusedVariables false
inductive BkT (w : Nat) : List Bt → Prop
  | last (S : List Bt) : S.length ≤ w → Srt S → BkT w S
  | cons (S T : List Bt) : S.length = w → Srt S → BkT w T → BkT w (S ++ T)
inductive BkP (w : Nat) : List Bt → Prop
  | nil : BkP w []
  | snoc (P S : List Bt) : BkP w P → S.length = w → Srt S → BkP w (P ++ S)
theorem bk_join {w : Nat} {P : List Bt} (h : BkP w P) : ∀ {T : List Bt}, BkT w T → BkT w (P ++ T) := by
  induction h with
  | nil => intro T hT; exact hT
  | snoc P S hP hS hs ih => intro T hT; rw [List.append_assoc]; exact ih (.cons S T hS hs hT)
theorem bk_one {w : Nat} {T : List Bt} (h : BkT w T) (hl : T.length ≤ w) : Srt T := by
  cases h with
  | last _ h1 h2 => exact h2
  | cons S T h1 h2 h3 =>
    have : T = [] := List.length_eq_zero_iff.1 (by rw [List.length_append] at hl; omega)
    subst this
    rw [List.append_nil]; exact h2
theorem bk_two {w : Nat} (hw : 1 ≤ w) {T : List Bt} (h : BkT w T) (hl : 2 * w ≤ T.length) : ∃ X Y T', T = X ++ (Y ++ T') ∧ X.length = w ∧ Y.length = w ∧ Srt X ∧ Srt Y ∧ BkT w T' := by
  cases h with
  | last _ h1 h2 => omega
  | cons S T h1 h2 h3 =>
    rw [List.length_append] at hl
    cases h3 with
    | last _ h4 h5 => exact ⟨S, T, [], by simp, h1, by omega, h2, h5, .last [] (by simp) List.Pairwise.nil⟩
    | cons S' T' h4 h5 h6 => exact ⟨S, S', T', rfl, h1, h4, h2, h5, h6⟩
theorem bk_more {w : Nat} {T : List Bt} (h : BkT w T) (hl : w < T.length) (hl2 : T.length < 2 * w) : ∃ X Y, T = X ++ Y ∧ X.length = w ∧ 1 ≤ Y.length ∧ Srt X ∧ Srt Y := by
  cases h with
  | last _ h1 h2 => omega
  | cons S T h1 h2 h3 =>
    rw [List.length_append] at hl hl2
    exact ⟨S, T, rfl, h1, by omega, h2, bk_one h3 (by omega)⟩
theorem sortB_part {P S T : List Bt} : sortB (P ++ (sortB S ++ T)) = sortB (P ++ (S ++ T)) := by
  refine sortB_eq (sortB_srt _) fun c => ?_
  rw [filter_sortB]
  simp only [List.filter_append, filter_sortB]
end Go.Proofs.YtbmppmdklappiaaDoor.Aw
namespace Go.Proofs.YtbmppmdklappiaaDoor.Aw
open Go
set_option linter.unusedSimpArgs false
set_option linter.unusedVariables false
def KS (N : Nat) : Nat := N + 5 + KM N * (2 * N + 20)
theorem KM_le {n N : Nat} (h : n ≤ N) : KM n ≤ 10 * N * n := by
  unfold KM
  exact Nat.mul_le_mul_right n (by omega)
set_option maxHeartbeats 1000000 in
set_option maxRecDepth 100000 in
theorem slices_stable_h [Tabs Tryd.prog] (l : List Bt) (N : Nat) (hN : N = l.length) (hl : N ≤ 10000) :
    HCon Tryd.prog n_slices_stableCmpFunchuff_batch [.own 1000 0 (some 2) 0 N, int N, cmpF] [.row false (bC l)] (.tup []) [(1000, 0, .row false (bC (sortB l)))] (KS N) := by
  refine HCon.of' mix Tryd.func117 rfl Tryd.ntmps117 e_slices_stableCmpFunchuff_batch r_slices_stableCmpFunchuff_batch (by simp) (by simp only [AV.gl.glL, AV.gl, int, cmpF, and_true]; omega) bC_gl ?_
  unfold s_slices_stableCmpFunchuff_batch
  repeat (first | refine wA ?_ | refine wB ?_ | refine wC rfl ?_ | refine wD rfl ?_ | refine wE ?_ | refine wF (by omega) ?_ | ((first | refine wG ?_ | refine wH ?_ | refine wI ?_ | refine wJ ?_ | refine wK ?_ | refine wL ?_); simp (disch := omega) only [wP, wZ, undef, seval, if_pos, if_neg, aStore, frz, AV.flat, ↓reduceIte, ne_eq, reduceCtorEq, ByteArray.size]))
  refine SWp.loop (α := List Bt × List Bt) (fun x => mk 63 (1 + x.1.length) [(0, .own 1000 0 (some 2) 0 N), (1, int N), (2, cmpF), (6, int 20), (7, int (x.1.length : Nat)), (8, int (x.1.length + 20 : Nat))] [(1000, 0, .row false (bC (x.1 ++ x.2)))])
    (fun x => BkP 20 x.1 ∧ sortB (x.1 ++ x.2) = sortB l ∧ x.1.length + x.2.length = N) (fun x => x.2.length) ([], l) ⟨.nil, rfl, by simp [hN]⟩ (le_mk rfl ?_ ?_ ?_) ?_
  · exact Nat.le_refl _
  iterate 2 (case _ => simp (disch := omega) only [wP, wZ, undef, seval, if_pos, if_neg, aStore, frz, AV.flat, ↓reduceIte, ne_eq, reduceCtorEq, ByteArray.size])
  rintro ⟨P, T⟩ ⟨hP, hS, hlen⟩ -
  simp only at hP hS hlen
  obtain ⟨a, ha⟩ : ∃ a, a = P.length := ⟨_, rfl⟩
  obtain ⟨b, hb⟩ : ∃ b, b = a + 20 := ⟨_, rfl⟩
  rw [← ha, ← hb]
  by_cases c : b ≤ N
  · have d : decide ((b : Int) ≤ (N : Int)) = true := decide_eq_true (by omega)
    obtain ⟨X, T', rfl, hX⟩ : ∃ X T', T = X ++ T' ∧ X.length = 20 := ⟨T.take 20, T.drop 20, (List.take_append_drop 20 T).symm, by rw [List.length_take]; omega⟩
    rw [List.length_append] at hlen
    have hc := slices_insertionSort_h P X T' N a b (by simp only [List.length_append]; omega) (by omega) ha (by omega)
    obtain ⟨b2, hb2⟩ : ∃ b2, b2 = b + 20 := ⟨_, rfl⟩
    have eb : (b : Int) + 20 = (b2 : Int) := by omega
    have hPl : (P ++ sortB X).length = b := by rw [List.length_append, length_sortB]; omega
    repeat (first | refine wA ?_ | refine wB ?_ | refine wC rfl ?_ | refine wD rfl ?_ | refine wE ?_ | refine wF (by omega) ?_ | ((first | refine wG ?_ | refine wH ?_ | refine wI ?_ | refine wJ ?_ | refine wK ?_ | refine wL ?_); simp (disch := omega) only [wP, wZ, undef, seval, if_pos, if_neg, aStore, frz, AV.flat, ↓reduceIte, ne_eq, reduceCtorEq, ByteArray.size, d]))
    refine goC_h [(1000, 0)] 2000 hc (by simp) (by simp) ?_ ?_ ?_
    iterate 2 (case _ => simp (disch := omega) only [wP, wZ, undef, seval, if_pos, if_neg, aStore, frz, AV.flat, ↓reduceIte, ne_eq, reduceCtorEq, ByteArray.size, renL_bC, cmpF])
    repeat (first | refine wA ?_ | refine wB ?_ | refine wC rfl ?_ | refine wD rfl ?_ | refine wE ?_ | refine wF (by omega) ?_ | ((first | refine wG ?_ | refine wH ?_ | refine wI ?_ | refine wJ ?_ | refine wK ?_ | refine wL ?_); simp (disch := omega) only [wP, wZ, undef, seval, if_pos, if_neg, aStore, frz, AV.flat, ↓reduceIte, ne_eq, reduceCtorEq, ByteArray.size, renL_bC, eb]))
    refine At.of (P ++ sortB X, T') ⟨.snoc P _ hP (by rw [length_sortB]; exact hX) (sortB_srt _), ?_, ?_⟩ ?_ rfl rfl ?_ ?_ ?_
    · simp only
      rw [List.append_assoc, sortB_part, hS]
    · simp only
      rw [hPl]; omega
    · simp only [List.length_append]; omega
    · simp only
      rw [hPl]; omega
    · have e2 : (((P ++ sortB X).length + 20 : Nat) : Int) = (b2 : Int) := by rw [hPl]; omega
      simp only [e2, hPl]
      simp (disch := omega) only [wP, wZ, undef, seval, if_pos, if_neg, aStore, frz, AV.flat, ↓reduceIte, ne_eq, reduceCtorEq, ByteArray.size]
      omega
    · simp (disch := omega) only [wP, wZ, undef, seval, if_pos, if_neg, aStore, frz, AV.flat, ↓reduceIte, ne_eq, reduceCtorEq, ByteArray.size]
  · have d : decide ((b : Int) ≤ (N : Int)) = false := decide_eq_false (by omega)
    have hc := slices_insertionSort_h P T [] N a N (by simp only [List.length_append, List.length_nil]; omega) (by omega) ha (by omega)
    rw [List.append_nil, List.append_nil] at hc
    repeat (first | refine wA ?_ | refine wB ?_ | refine wC rfl ?_ | refine wD rfl ?_ | refine wE ?_ | refine wF (by omega) ?_ | ((first | refine wG ?_ | refine wH ?_ | refine wI ?_ | refine wJ ?_ | refine wK ?_ | refine wL ?_); simp (disch := omega) only [wP, wZ, undef, seval, if_pos, if_neg, aStore, frz, AV.flat, ↓reduceIte, ne_eq, reduceCtorEq, ByteArray.size, d]))
    refine goC_h [(1000, 0)] 2000 hc (by simp) (by simp) ?_ ?_ ?_
    iterate 2 (case _ => simp (disch := omega) only [wP, wZ, undef, seval, if_pos, if_neg, aStore, frz, AV.flat, ↓reduceIte, ne_eq, reduceCtorEq, ByteArray.size, renL_bC, cmpF])
    repeat (first | refine wA ?_ | refine wB ?_ | refine wC rfl ?_ | refine wD rfl ?_ | refine wE ?_ | refine wF (by omega) ?_ | ((first | refine wG ?_ | refine wH ?_ | refine wI ?_ | refine wJ ?_ | refine wK ?_ | refine wL ?_); simp (disch := omega) only [wP, wZ, undef, seval, if_pos, if_neg, aStore, frz, AV.flat, ↓reduceIte, ne_eq, reduceCtorEq, ByteArray.size, renL_bC]))
    refine SWp.loop (α := List Bt × Nat) (fun x => mk 63 (N + 3 + KM N * x.2) [(0, .own 1000 0 (some 2) 0 N), (1, int N), (2, cmpF), (6, int (x.2 : Nat))] [(1000, 0, .row false (bC x.1))])
      (fun x => BkT x.2 x.1 ∧ sortB x.1 = sortB l ∧ x.1.length = N ∧ 1 ≤ x.2 ∧ x.2 ≤ 2 * N + 20) (fun x => N - x.2) (P ++ sortB T, 20) ⟨bk_join hP (.last _ (by rw [length_sortB]; omega) (sortB_srt _)), ?_, ?_, by simp, by simp⟩ (le_mk rfl ?_ ?_ ?_) ?_
    · have := sortB_part (P := P) (S := T) (T := [])
      rw [List.append_nil, List.append_nil] at this
      simp only
      rw [this, hS]
    · simp only [List.length_append, length_sortB]; omega
    · show 1 + a + 1 ≤ N + 3 + KM N * 20
      omega
    iterate 2 (case _ => simp (disch := omega) only [wP, wZ, undef, seval, if_pos, if_neg, aStore, frz, AV.flat, ↓reduceIte, ne_eq, reduceCtorEq, ByteArray.size, renL_bC])
    clear hc hS hP hlen d c
    rintro ⟨R, w⟩ ⟨hB, hSo, hRl, hw1, hw2⟩ -
    simp only at hB hSo hRl hw1 hw2
    by_cases cw : w < N
    · have d : decide ((w : Int) < (N : Int)) = true := decide_eq_true (by omega)
      obtain ⟨w2, hw2e⟩ : ∃ w2, w2 = 2 * w := ⟨_, rfl⟩
      have ew : 2 * (w : Int) = (w2 : Int) := by omega
      have ew' : (w : Int) * 2 = (w2 : Int) := by omega
      have fN : KM N * w2 = KM N * w + KM N * w := by rw [hw2e, ← Nat.mul_assoc, Nat.mul_comm (KM N) 2, Nat.mul_assoc]; omega
      have fw : KM N ≤ KM N * w := Nat.le_mul_of_pos_right _ (by omega)
      repeat (first | refine wA ?_ | refine wB ?_ | refine wC rfl ?_ | refine wD rfl ?_ | refine wE ?_ | refine wF (by omega) ?_ | ((first | refine wG ?_ | refine wH ?_ | refine wI ?_ | refine wJ ?_ | refine wK ?_ | refine wL ?_); simp (disch := omega) only [wP, wZ, undef, seval, if_pos, if_neg, aStore, frz, AV.flat, ↓reduceIte, ne_eq, reduceCtorEq, ByteArray.size, d, ew]))
      refine SWp.loop (α := List Bt × List Bt) (fun x => mk 63 (N + 3 + KM N * w + 10 * N * x.1.length) [(0, .own 1000 0 (some 2) 0 N), (1, int N), (2, cmpF), (6, int w), (7, int (x.1.length : Nat)), (8, int (x.1.length + w2 : Nat))] [(1000, 0, .row false (bC (x.1 ++ x.2)))])
        (fun x => BkP w2 x.1 ∧ BkT w x.2 ∧ sortB (x.1 ++ x.2) = sortB l ∧ x.1.length + x.2.length = N) (fun x => x.2.length) ([], R) ⟨.nil, hB, hSo, by simp [hRl]⟩ (le_mk rfl ?_ ?_ ?_) ?_
      · exact Nat.le_refl _
      iterate 2 (case _ => simp (disch := omega) only [wP, wZ, undef, seval, if_pos, if_neg, aStore, frz, AV.flat, ↓reduceIte, ne_eq, reduceCtorEq, ByteArray.size])
      rintro ⟨P2, T2⟩ ⟨hP2, hT2, hS2, hl2⟩ -
      simp only at hP2 hT2 hS2 hl2
      obtain ⟨a2, ha2⟩ : ∃ a2, a2 = P2.length := ⟨_, rfl⟩
      obtain ⟨b2, hb2⟩ : ∃ b2, b2 = a2 + w2 := ⟨_, rfl⟩
      obtain ⟨mid, hmid⟩ : ∃ mid, mid = a2 + w := ⟨_, rfl⟩
      have em : (a2 : Int) + (w : Int) = (mid : Int) := by omega
      rw [← ha2, ← hb2]
      by_cases cb : b2 ≤ N
      · have d2 : decide ((b2 : Int) ≤ (N : Int)) = true := decide_eq_true (by omega)
        obtain ⟨X, Y, T', rfl, hX, hY, hXs, hYs, hT'⟩ := bk_two hw1 hT2 (by omega)
        simp only [List.length_append] at hl2
        have hc := slices_symMerge_h w2 P2 X Y T' N a2 mid b2 (by omega) (by simp only [List.length_append]; omega) (by omega) ha2 (by omega) (by omega) (by omega) (by omega) hXs hYs
        obtain ⟨b3, hb3⟩ : ∃ b3, b3 = b2 + w2 := ⟨_, rfl⟩
        have eb : (b2 : Int) + (w2 : Int) = (b3 : Int) := by omega
        have hPl : (P2 ++ sortB (X ++ Y)).length = b2 := by simp only [List.length_append, length_sortB]; omega
        have f1 : 10 * N * b2 = 10 * N * a2 + 10 * N * w2 := by rw [hb2, Nat.mul_add]
        have f2 : KM w2 ≤ 10 * N * w2 := KM_le (by omega)
        repeat (first | refine wA ?_ | refine wB ?_ | refine wC rfl ?_ | refine wD rfl ?_ | refine wE ?_ | refine wF (by omega) ?_ | ((first | refine wG ?_ | refine wH ?_ | refine wI ?_ | refine wJ ?_ | refine wK ?_ | refine wL ?_); simp (disch := omega) only [wP, wZ, undef, seval, if_pos, if_neg, aStore, frz, AV.flat, ↓reduceIte, ne_eq, reduceCtorEq, ByteArray.size, d2, em]))
        refine goC_h [(1000, 0)] 2000 hc (by simp) (by simp) ?_ ?_ ?_
        iterate 2 (case _ => simp (disch := omega) only [wP, wZ, undef, seval, if_pos, if_neg, aStore, frz, AV.flat, ↓reduceIte, ne_eq, reduceCtorEq, ByteArray.size, renL_bC, cmpF])
        repeat (first | refine wA ?_ | refine wB ?_ | refine wC rfl ?_ | refine wD rfl ?_ | refine wE ?_ | refine wF (by omega) ?_ | ((first | refine wG ?_ | refine wH ?_ | refine wI ?_ | refine wJ ?_ | refine wK ?_ | refine wL ?_); simp (disch := omega) only [wP, wZ, undef, seval, if_pos, if_neg, aStore, frz, AV.flat, ↓reduceIte, ne_eq, reduceCtorEq, ByteArray.size, renL_bC, ew, eb]))
        refine At.of (P2 ++ sortB (X ++ Y), T') ⟨.snoc P2 _ hP2 (by rw [length_sortB, List.length_append]; omega) (sortB_srt _), hT', ?_, ?_⟩ ?_ rfl rfl ?_ ?_ ?_
        · simp only
          rw [List.append_assoc, sortB_part, ← hS2, List.append_assoc]
        · simp only
          rw [hPl]; omega
        · simp only [List.length_append]; omega
        · simp only
          rw [hPl]; omega
        · have e2 : (((P2 ++ sortB (X ++ Y)).length + w2 : Nat) : Int) = (b3 : Int) := by rw [hPl]; omega
          simp only [e2, hPl]
          simp (disch := omega) only [wP, wZ, undef, seval, if_pos, if_neg, aStore, frz, AV.flat, ↓reduceIte, ne_eq, reduceCtorEq, ByteArray.size]
          omega
        · simp (disch := omega) only [wP, wZ, undef, seval, if_pos, if_neg, aStore, frz, AV.flat, ↓reduceIte, ne_eq, reduceCtorEq, ByteArray.size]
      · have d2 : decide ((b2 : Int) ≤ (N : Int)) = false := decide_eq_false (by omega)
        have hKN : KM N = 10 * N * a2 + 10 * N * (N - a2) := by
          rw [← Nat.mul_add, show a2 + (N - a2) = N by omega]; rfl
        by_cases cm : mid < N
        · have d3 : decide ((mid : Int) < (N : Int)) = true := decide_eq_true (by omega)
          obtain ⟨X, Y, rfl, hX, hY, hXs, hYs⟩ := bk_more hT2 (by omega) (by omega)
          simp only [List.length_append] at hl2
          have hc := slices_symMerge_h (N - a2) P2 X Y [] N a2 mid N (by omega) (by simp only [List.length_append, List.length_nil]; omega) (by omega) ha2 (by omega) (by omega) (by omega) hY hXs hYs
          rw [List.append_nil, List.append_nil] at hc
          have f2 : KM (N - a2) ≤ 10 * N * (N - a2) := KM_le (by omega)
          repeat (first | refine wA ?_ | refine wB ?_ | refine wC rfl ?_ | refine wD rfl ?_ | refine wE ?_ | refine wF (by omega) ?_ | ((first | refine wG ?_ | refine wH ?_ | refine wI ?_ | refine wJ ?_ | refine wK ?_ | refine wL ?_); simp (disch := omega) only [wP, wZ, undef, seval, if_pos, if_neg, aStore, frz, AV.flat, ↓reduceIte, ne_eq, reduceCtorEq, ByteArray.size, d2, em, d3]))
          refine goC_h [(1000, 0)] 2000 hc (by simp) (by simp) ?_ ?_ ?_
          iterate 2 (case _ => simp (disch := omega) only [wP, wZ, undef, seval, if_pos, if_neg, aStore, frz, AV.flat, ↓reduceIte, ne_eq, reduceCtorEq, ByteArray.size, renL_bC, cmpF])
          repeat (first | refine wA ?_ | refine wB ?_ | refine wC rfl ?_ | refine wD rfl ?_ | refine wE ?_ | refine wF (by omega) ?_ | ((first | refine wG ?_ | refine wH ?_ | refine wI ?_ | refine wJ ?_ | refine wK ?_ | refine wL ?_); simp (disch := omega) only [wP, wZ, undef, seval, if_pos, if_neg, aStore, frz, AV.flat, ↓reduceIte, ne_eq, reduceCtorEq, ByteArray.size, renL_bC, ew']))
          refine At.of (P2 ++ sortB (X ++ Y), w2) ⟨bk_join hP2 (.last _ (by rw [length_sortB, List.length_append]; omega) (sortB_srt _)), ?_, ?_, by simp only; omega, by simp only; omega⟩ (by simp only; omega) rfl rfl ?_ ?_ ?_
          · have := sortB_part (P := P2) (S := X ++ Y) (T := [])
            rw [List.append_nil, List.append_nil] at this
            simp only
            rw [this, hS2]
          · simp only [List.length_append, length_sortB]; omega
          · simp only; omega
          iterate 2 (case _ => simp (disch := omega) only [wP, wZ, undef, seval, if_pos, if_neg, aStore, frz, AV.flat, ↓reduceIte, ne_eq, reduceCtorEq, ByteArray.size])
        · have d3 : decide ((mid : Int) < (N : Int)) = false := decide_eq_false (by omega)
          repeat (first | refine wA ?_ | refine wB ?_ | refine wC rfl ?_ | refine wD rfl ?_ | refine wE ?_ | refine wF (by omega) ?_ | ((first | refine wG ?_ | refine wH ?_ | refine wI ?_ | refine wJ ?_ | refine wK ?_ | refine wL ?_); simp (disch := omega) only [wP, wZ, undef, seval, if_pos, if_neg, aStore, frz, AV.flat, ↓reduceIte, ne_eq, reduceCtorEq, ByteArray.size, d2, em, d3, ew']))
          refine At.of (P2 ++ T2, w2) ⟨bk_join hP2 (.last _ (by omega) (bk_one hT2 (by omega))), hS2, ?_, by simp only; omega, by simp only; omega⟩ (by simp only; omega) rfl rfl ?_ ?_ ?_
          · simp only [List.length_append]; omega
          · simp only; omega
          iterate 2 (case _ => simp (disch := omega) only [wP, wZ, undef, seval, if_pos, if_neg, aStore, frz, AV.flat, ↓reduceIte, ne_eq, reduceCtorEq, ByteArray.size])
    · have d : decide ((w : Int) < (N : Int)) = false := decide_eq_false (by omega)
      have hR : sortB l = R := by rw [← hSo]; exact sortB_id (bk_one hB (by omega))
      have f : KM N * w ≤ KM N * (2 * N + 20) := Nat.mul_le_mul_left _ hw2
      rw [hR]
      repeat (first | refine wA ?_ | refine wB ?_ | refine wC rfl ?_ | refine wD rfl ?_ | refine wE ?_ | refine wF (by omega) ?_ | ((first | refine wG ?_ | refine wH ?_ | refine wI ?_ | refine wJ ?_ | refine wK ?_ | refine wL ?_); simp (disch := omega) only [wP, wZ, undef, seval, if_pos, if_neg, aStore, frz, AV.flat, ↓reduceIte, ne_eq, reduceCtorEq, ByteArray.size, d, outOf_nil]))
      all_goals (simp only [KS]; omega)
end Go.Proofs.YtbmppmdklappiaaDoor.Aw
namespace Go.Proofs.YtbmppmdklappiaaDoor.Aw
open Go
set_option linter.unusedSimpArgs false
set_option linter.unusedVariables false
def prs : List Bt → List Bt
  | p :: q :: r => (p.1 + q.1, p.2 ++ q.2) :: prs r
  | _ => []
def prK (l : List Bt) (k : Nat) : List Bt := (List.range k).map fun j => ((l.getD (2 * j) (0, [])).1 + (l.getD (2 * j + 1) (0, [])).1, (l.getD (2 * j) (0, [])).2 ++ (l.getD (2 * j + 1) (0, [])).2)
theorem prK_succ {l : List Bt} {k : Nat} : prK l (k + 1) = prK l k ++ [((l.getD (2 * k) (0, [])).1 + (l.getD (2 * k + 1) (0, [])).1, (l.getD (2 * k) (0, [])).2 ++ (l.getD (2 * k + 1) (0, [])).2)] := by
  simp [prK, List.range_succ]
theorem length_prK {l : List Bt} {k : Nat} : (prK l k).length = k := by simp [prK]
theorem getD_bA {l : List Bt} {i : Nat} (h : i < l.length) : (l.map bA).getD i .junk = .agg [nA (l.getD i (0, [])).1, .sl false none ((l.getD i (0, [])).2.map nA)] := by
  simp [List.getD, List.getElem?_eq_getElem h, bA]
theorem chunks_bC : ∀ {l : List Bt}, chunks (some 2) l.length (bC l) = l.map bA
  | [] => rfl
  | p :: l => by
    simp only [List.length_cons, bC_cons, chunks, esz] at *
    have := chunks_bC (l := l)
    simp [this, bA, chunks]
set_option maxRecDepth 100000 in
theorem huff_pairs_c [Tabs Tryd.prog] (nl : Bool) (l : List Bt) (hl : l.length ≤ 10000) (hs : ∀ p ∈ l, p.1 ≤ 1000000000000000 ∧ 0 < p.2.length ∧ p.2.length ≤ 50000) :
    Con Tryd.prog n_huff_pairs [.sl nl (some 2) (l.map bA)] (.sl (nl0 (l.length / 2)) (some 2) ((prK l (l.length / 2)).map bA)) := by
  refine Con.of' mix Tryd.func116 rfl Tryd.ntmps116 e_huff_pairs r_huff_pairs (by simp) (by simp only [AV.free, AV.free.freeL, free_bA, Bool.and_self]) (by simp only [AV.free, free_bA]) ?_
  unfold s_huff_pairs
  iterate 4 (first | refine wA ?_ | refine wB ?_ | refine wC rfl ?_ | refine wD rfl ?_ | refine wE ?_ | refine wF (by omega) ?_ | ((first | refine wG ?_ | refine wH ?_ | refine wI ?_ | refine wJ ?_ | refine wK ?_ | refine wL ?_); simp (disch := omega) only [wP, wZ, undef, seval, if_pos, if_neg, aStore, frz, AV.flat, ↓reduceIte, ne_eq, reduceCtorEq, ByteArray.size]))
  refine SWp.adopt 3 (some 2) (by simp (disch := omega) only [wP, wZ, undef, seval, if_pos, if_neg, aStore, frz, AV.flat, ↓reduceIte, ne_eq, reduceCtorEq, ByteArray.size]) ?_
  repeat (first | refine wA ?_ | refine wB ?_ | refine wC rfl ?_ | refine wD rfl ?_ | refine wE ?_ | refine wF (by omega) ?_ | ((first | refine wG ?_ | refine wH ?_ | refine wI ?_ | refine wJ ?_ | refine wK ?_ | refine wL ?_); simp (disch := omega) only [wP, wZ, undef, seval, if_pos, if_neg, aStore, frz, AV.flat, ↓reduceIte, ne_eq, reduceCtorEq, ByteArray.size]))
  refine SWp.loop (α := Nat) (fun k => mk 38 (3 * k + 1) [(0, .sl nl (some 2) (l.map bA)), (3, .own 3 (3 * k) (some 2) 0 k), (4, int (2 * k + 1 : Nat))] [(3, 3 * k, .row (nl0 k) (bC (prK l k)))])
    (fun k => 2 * k ≤ l.length) (fun k => l.length - 2 * k) 0 (by omega) (le_mk rfl ?_ ?_ ?_) ?_
  · exact Nat.le_refl _
  · simp (disch := omega) only [wP, wZ, undef, seval, if_pos, if_neg, aStore, frz, AV.flat, ↓reduceIte, ne_eq, reduceCtorEq, ByteArray.size]
  · simp (disch := omega) only [wP, wZ, undef, seval, if_pos, if_neg, aStore, frz, AV.flat, ↓reduceIte, ne_eq, reduceCtorEq, ByteArray.size, show bC (prK l 0) = [] from rfl, nl0_zero]
  rintro k hk -
  obtain ⟨q, hq⟩ : ∃ q, q = 2 * k + 1 := ⟨_, rfl⟩
  rw [← hq]
  repeat (first | refine wA ?_ | refine wB ?_ | refine wC rfl ?_ | refine wD rfl ?_ | refine wE ?_ | refine wF (by omega) ?_ | ((first | refine wG ?_ | refine wH ?_ | refine wI ?_ | refine wJ ?_ | refine wK ?_ | refine wL ?_); simp (disch := omega) only [wP, wZ, undef, seval, if_pos, if_neg, aStore, frz, AV.flat, ↓reduceIte, ne_eq, reduceCtorEq, ByteArray.size, List.length_map]))
  refine SWp.cond rfl (fun h => ?_) (fun h => ?_)
  · simp only [decide_eq_true_eq] at h
    have hql : q < l.length := by omega
    have hpl : 2 * k < l.length := by omega
    obtain ⟨p, hp⟩ : ∃ p, p = 2 * k := ⟨_, rfl⟩
    obtain ⟨x, hx⟩ : ∃ x, x = l.getD p (0, []) := ⟨_, rfl⟩
    obtain ⟨y, hy⟩ : ∃ y, y = l.getD q (0, []) := ⟨_, rfl⟩
    have hxm : x ∈ l := by
      rw [hx, hp]; simp only [List.getD, List.getElem?_eq_getElem hpl, Option.getD_some]; exact List.getElem_mem _
    have hym : y ∈ l := by
      rw [hy]; simp only [List.getD, List.getElem?_eq_getElem hql, Option.getD_some]; exact List.getElem_mem _
    obtain ⟨x1, x2, x3⟩ := hs x hxm
    obtain ⟨y1, y2, y3⟩ := hs y hym
    have e1 : (l.map bA).getD p .junk = .agg [.sc (.int .i64 (x.1 : Int)), .sl false none (x.2.map nA)] := by rw [hx]; exact getD_bA (by omega)
    have e2 : (l.map bA).getD q .junk = .agg [.sc (.int .i64 (y.1 : Int)), .sl false none (y.2.map nA)] := by rw [hy]; exact getD_bA hql
    have eqp : (q : Int) - 1 = (p : Int) := by omega
    obtain ⟨z, hz⟩ : ∃ z, z = x.1 + y.1 := ⟨_, rfl⟩
    have esum : (x.1 : Int) + (y.1 : Int) = (z : Int) := by omega
    have hpr : prK l (k + 1) = prK l k ++ [(z, x.2 ++ y.2)] := by rw [prK_succ, ← hp, show p + 1 = q from by omega, ← hx, ← hy, ← hz]
    have hcells : bC (prK l k) ++ [.sc (.int .i64 (z : Int)), .sl false none ((x.2 ++ y.2).map nA)] = bC (prK l (k + 1)) := by
      rw [hpr, ← bC_append]; rfl
    have hcat := slices_ConcatI false false (x.2.map nA) (y.2.map nA) free_nA free_nA (by rw [List.length_map]; omega) (by rw [List.length_map]; omega) (by simp only [List.length_map]; omega)
    rw [← List.map_append] at hcat
    obtain ⟨xy, hxy⟩ : ∃ xy, xy = x.2 ++ y.2 := ⟨_, rfl⟩
    rw [← hxy] at hcat hcells hpr
    repeat (first | refine wA ?_ | refine wB ?_ | refine wC rfl ?_ | refine wD rfl ?_ | refine wE ?_ | refine wF (by omega) ?_ | ((first | refine wG ?_ | refine wH ?_ | refine wI ?_ | refine wJ ?_ | refine wK ?_ | refine wL ?_); simp (disch := omega) only [wP, wZ, undef, seval, if_pos, if_neg, aStore, frz, AV.flat, ↓reduceIte, ne_eq, reduceCtorEq, ByteArray.size, eqp, e1, e2, iR, esum]))
    refine goC_p _ (.inl ⟨by simp only [AV.free, AV.free.freeL, free_nA, Bool.and_self], hcat⟩) ?_
    repeat (first | refine wA ?_ | refine wB ?_ | refine wC rfl ?_ | refine wD rfl ?_ | refine wE ?_ | refine wF (by omega) ?_ | ((first | refine wG ?_ | refine wH ?_ | refine wI ?_ | refine wJ ?_ | refine wK ?_ | refine wL ?_); simp (disch := omega) only [wP, wZ, undef, seval, if_pos, if_neg, aStore, frz, AV.flat, ↓reduceIte, ne_eq, reduceCtorEq, ByteArray.size, length_bC, length_prK, hcells, Bool.and_false]))
    refine ⟨⟨⟨_, rfl, rfl⟩, free_nA⟩, ⟨fun w hw => ⟨_, List.mem_singleton.1 hw⟩, by omega, by omega⟩, ?_⟩
    have hfl : List.flatMap (fun x => (cellsA x).getD []) [AV.agg [AV.sc (Value.int IntKind.i64 (z : Int)), AV.sl false none (List.map nA xy)]] = [.sc (.int .i64 (z : Int)), .sl false none (xy.map nA)] := rfl
    repeat (first | refine wA ?_ | refine wB ?_ | refine wC rfl ?_ | refine wD rfl ?_ | refine wE ?_ | refine wF (by omega) ?_ | ((first | refine wG ?_ | refine wH ?_ | refine wI ?_ | refine wJ ?_ | refine wK ?_ | refine wL ?_); simp (disch := omega) only [wP, wZ, undef, seval, if_pos, if_neg, aStore, frz, AV.flat, ↓reduceIte, ne_eq, reduceCtorEq, ByteArray.size, hfl, hcells]))
    refine At.of (k + 1) (by omega) (by omega) rfl rfl (show 3 * k + 1 + 1 + 1 + 1 ≤ 3 * (k + 1) + 1 by omega) ?_ ?_
    · simp (disch := omega) only [wP, wZ, undef, seval, if_pos, if_neg, aStore, frz, AV.flat, ↓reduceIte, ne_eq, reduceCtorEq, ByteArray.size, show 3 * k + 1 + 1 + 1 = 3 * (k + 1) from by omega]
      try omega
    · simp (disch := omega) only [wP, wZ, undef, seval, if_pos, if_neg, aStore, frz, AV.flat, ↓reduceIte, ne_eq, reduceCtorEq, ByteArray.size, show 3 * k + 1 + 1 + 1 = 3 * (k + 1) from by omega, nl0_succ]
  · simp only [decide_eq_false_iff_not] at h
    obtain rfl : k = l.length / 2 := by omega
    repeat (first | refine wA ?_ | refine wB ?_ | refine wC rfl ?_ | refine wD rfl ?_ | refine wE ?_ | refine wF (by omega) ?_ | ((first | refine wG ?_ | refine wH ?_ | refine wI ?_ | refine wJ ?_ | refine wK ?_ | refine wL ?_); simp (disch := omega) only [wP, wZ, undef, seval, if_pos, if_neg, aStore, frz, AV.flat, ↓reduceIte, ne_eq, reduceCtorEq, ByteArray.size]))
    rw [if_pos (by rw [length_bC, length_prK]; omega)]
    have := chunks_bC (l := prK l (l.length / 2))
    rw [length_prK] at this
    rw [this]
end Go.Proofs.YtbmppmdklappiaaDoor.Aw
namespace Go.Proofs.YtbmppmdklappiaaDoor.Aw
open Go
set_option linter.unusedSimpArgs false
set_option linter.unusedVariables false
def cntB (s : Nat) (l : List Bt) : Nat := (l.flatMap (·.2)).count s
theorem cntB_nil {s : Nat} : cntB s [] = 0 := rfl
theorem cntB_append {s : Nat} {a b : List Bt} : cntB s (a ++ b) = cntB s a + cntB s b := by simp [cntB]
theorem cntB_cons {s : Nat} {x : Bt} {b : List Bt} : cntB s (x :: b) = x.2.count s + cntB s b := by simp [cntB]
theorem cntB_insR {s : Nat} {A : List Bt} {x : Bt} : cntB s (insR A x) = cntB s A + x.2.count s := by
  have h := List.takeWhile_append_dropWhile (p := fun p : Bt => decide (p.1 ≤ x.1)) (l := A)
  have h2 := congrArg (cntB s) h
  rw [cntB_append] at h2
  rw [insR, cntB_append, cntB_cons]
  omega
theorem cntB_foldl {s : Nat} : ∀ {S A : List Bt}, cntB s (S.foldl insR A) = cntB s A + cntB s S
  | [], A => by simp [cntB_nil]
  | x :: S, A => by rw [List.foldl_cons, cntB_foldl (S := S), cntB_insR, cntB_cons]; omega
theorem cntB_sortB {s : Nat} {S : List Bt} : cntB s (sortB S) = cntB s S := by rw [sortB, cntB_foldl, cntB_nil]; omega
theorem take_two {S P : List Bt} (hS : Srt S) (hP : Srt P) : ∀ {t : Nat}, t ≤ S.length + P.length → ∃ m p, m ≤ S.length ∧ p ≤ P.length ∧ m + p = t ∧ (sortB (S ++ P)).take t = sortB (S.take m ++ P.take p) ∧
    (∀ x ∈ S.take m, ∀ y ∈ P.drop p, x.1 ≤ y.1) ∧ (∀ y ∈ P.take p, ∀ x ∈ S.drop m, y.1 < x.1) := by
  have fin : ∀ {m p : Nat}, m ≤ S.length → p ≤ P.length → (∀ x ∈ S.take m, ∀ y ∈ P.drop p, x.1 ≤ y.1) → (∀ y ∈ P.take p, ∀ x ∈ S.drop m, y.1 < x.1) → (sortB (S ++ P)).take (m + p) = sortB (S.take m ++ P.take p) := by
    intro m p hm hp h1 h2
    have hc := sortB_cut (X1 := S.take m) (X2 := S.drop m) (Y1 := P.take p) (Y2 := P.drop p) (by rw [List.take_append_drop]; exact hS) (by rw [List.take_append_drop]; exact hP) h1 h2
    rw [List.take_append_drop, List.take_append_drop] at hc
    rw [hc, List.take_left']
    rw [length_sortB, List.length_append, List.length_take, List.length_take]
    omega
  intro t
  induction t with
  | zero => intro _; exact ⟨0, 0, Nat.zero_le _, Nat.zero_le _, rfl, by simp [sortB], by simp, by simp⟩
  | succ t ih =>
    intro ht
    obtain ⟨m, p, hm, hp, e, -, h1, h2⟩ := ih (by omega)
    have go : (m < S.length ∧ ∀ y ∈ P.drop p, (S.getD m (0, [])).1 ≤ y.1) ∨ (p < P.length ∧ ∀ x ∈ S.drop m, (P.getD p (0, [])).1 < x.1) := by
      by_cases cm : m < S.length
      · by_cases cp : p < P.length
        · have eS := List.drop_eq_getElem_cons cm
          have eP := List.drop_eq_getElem_cons cp
          have sS : Srt (S.drop m) := List.Pairwise.sublist (List.drop_sublist _ _) hS
          have sP : Srt (P.drop p) := List.Pairwise.sublist (List.drop_sublist _ _) hP
          rw [eS] at sS
          rw [eP] at sP
          have sS := List.pairwise_cons.1 sS
          have sP := List.pairwise_cons.1 sP
          have gS : S.getD m (0, []) = S[m] := by simp [List.getD, cm]
          have gP : P.getD p (0, []) = P[p] := by simp [List.getD, cp]
          rw [gS, gP, eS, eP]
          by_cases c : S[m].1 ≤ P[p].1
          · refine .inl ⟨cm, fun y hy => ?_⟩
            rcases List.mem_cons.1 hy with rfl | hy
            · exact c
            · have := sP.1 y hy; omega
          · refine .inr ⟨cp, fun x hx => ?_⟩
            rcases List.mem_cons.1 hx with rfl | hx
            · omega
            · have := sS.1 x hx; omega
        · refine .inl ⟨cm, fun y hy => ?_⟩
          rw [List.drop_eq_nil_of_le (by omega)] at hy
          simp at hy
      · refine .inr ⟨by omega, fun x hx => ?_⟩
        rw [List.drop_eq_nil_of_le (by omega)] at hx
        simp at hx
    rcases go with ⟨cm, h⟩ | ⟨cp, h⟩
    · have h1' : ∀ x ∈ S.take (m + 1), ∀ y ∈ P.drop p, x.1 ≤ y.1 := by
        intro x hx y hy
        rw [List.take_succ_eq_append_getElem cm, List.mem_append] at hx
        rcases hx with hx | hx
        · exact h1 x hx y hy
        · simp only [List.mem_singleton] at hx
          subst hx
          have := h y hy
          simpa [List.getD, cm] using this
      have h2' : ∀ y ∈ P.take p, ∀ x ∈ S.drop (m + 1), y.1 < x.1 := fun y hy x hx => h2 y hy x (by
        rw [List.drop_eq_getElem_cons cm]; exact List.mem_cons_of_mem _ hx)
      exact ⟨m + 1, p, cm, hp, by omega, by rw [show t + 1 = m + 1 + p by omega]; exact fin cm hp h1' h2', h1', h2'⟩
    · have h2' : ∀ y ∈ P.take (p + 1), ∀ x ∈ S.drop m, y.1 < x.1 := by
        intro y hy x hx
        rw [List.take_succ_eq_append_getElem cp, List.mem_append] at hy
        rcases hy with hy | hy
        · exact h2 y hy x hx
        · simp only [List.mem_singleton] at hy
          subst hy
          have := h x hx
          simpa [List.getD, cp] using this
      have h1' : ∀ x ∈ S.take m, ∀ y ∈ P.drop (p + 1), x.1 ≤ y.1 := fun x hx y hy => h1 x hx y (by
        rw [List.drop_eq_getElem_cons cp]; exact List.mem_cons_of_mem _ hy)
      exact ⟨m, p + 1, hm, cp, by omega, by rw [show t + 1 = m + (p + 1) by omega]; exact fin hm cp h1' h2', h1', h2'⟩
theorem length_prs : ∀ (l : List Bt), (prs l).length = l.length / 2
  | [] => rfl
  | [_] => by simp [prs]
  | p :: q :: r => by simp only [prs, List.length_cons, length_prs r]; omega
theorem take_prs : ∀ (p : Nat) (l : List Bt), 2 * p ≤ l.length → (prs l).take p = prs (l.take (2 * p))
  | 0, l, _ => by simp [prs]
  | p + 1, [], h => by simp at h
  | p + 1, [_], h => by simp only [List.length_cons, List.length_nil] at h; omega
  | p + 1, x :: y :: r, h => by
    rw [show 2 * (p + 1) = 2 * p + 1 + 1 by omega, List.take_succ_cons, List.take_succ_cons, prs, prs, List.take_succ_cons, take_prs p r (by simp only [List.length_cons] at h; omega)]
theorem cntB_prs {s : Nat} : ∀ (p : Nat) (l : List Bt), l.length = 2 * p → cntB s (prs l) = cntB s l
  | 0, l, h => by rw [List.length_eq_zero_iff.1 (by omega : l.length = 0)]; rfl
  | p + 1, [], h => by simp at h
  | p + 1, [_], h => by simp only [List.length_cons, List.length_nil] at h; omega
  | p + 1, x :: y :: r, h => by
    rw [prs, cntB_cons, cntB_prs p r (by simp only [List.length_cons] at h; omega), cntB_cons, cntB_cons, List.count_append]
    omega
theorem mem_prs_le : ∀ {l : List Bt} {q : Bt}, Srt l → q ∈ prs l → ∃ a ∈ l, ∃ b ∈ l, a.1 ≤ b.1 ∧ q.1 = a.1 + b.1
  | [], q, _, h => by simp [prs] at h
  | [_], q, _, h => by simp [prs] at h
  | x :: y :: r, q, hs, h => by
    have hx := List.pairwise_cons.1 hs
    have hy := List.pairwise_cons.1 hx.2
    rw [prs, List.mem_cons] at h
    rcases h with rfl | h
    · exact ⟨x, by simp, y, by simp, hx.1 y (by simp), rfl⟩
    · obtain ⟨a, ha, b, hb, hab, e⟩ := mem_prs_le hy.2 h
      exact ⟨a, by simp [ha], b, by simp [hb], hab, e⟩
theorem srt_prs : ∀ {l : List Bt}, Srt l → Srt (prs l)
  | [], _ => List.Pairwise.nil
  | [_], _ => List.Pairwise.nil
  | x :: y :: r, hs => by
    have hx := List.pairwise_cons.1 hs
    have hy := List.pairwise_cons.1 hx.2
    rw [prs]
    refine List.pairwise_cons.2 ⟨fun q hq => ?_, srt_prs hy.2⟩
    obtain ⟨a, ha, b, hb, -, e⟩ := mem_prs_le hy.2 hq
    have h1 := hx.1 a (by simp [ha])
    have h2 := hy.1 b hb
    simp only
    omega
theorem prs_cover : ∀ {p : Nat} {l : List Bt} {a : Bt}, Srt l → (∀ x ∈ l, 0 < x.1) → 2 * p ≤ l.length → a ∈ l.take (2 * p) → ∃ q ∈ (prs l).take p, a.1 < q.1
  | 0, l, a, _, _, _, h => by simp at h
  | p + 1, [], a, _, _, hl, h => by simp at hl
  | p + 1, [_], a, _, _, hl, h => by simp only [List.length_cons, List.length_nil] at hl; omega
  | p + 1, x :: y :: r, a, hs, hp, hl, h => by
    have hx := List.pairwise_cons.1 hs
    have hy := List.pairwise_cons.1 hx.2
    have px := hp x (by simp)
    have py := hp y (by simp)
    rw [show 2 * (p + 1) = 2 * p + 1 + 1 by omega, List.take_succ_cons, List.take_succ_cons] at h
    rw [prs, List.take_succ_cons]
    rcases List.mem_cons.1 h with rfl | h
    · exact ⟨_, List.mem_cons_self, by simp only; omega⟩
    rcases List.mem_cons.1 h with rfl | h
    · exact ⟨_, List.mem_cons_self, by simp only; omega⟩
    obtain ⟨q, hq, e⟩ := prs_cover hy.2 (fun x hx => hp x (by simp [hx])) (by simp only [List.length_cons] at hl; omega) h
    exact ⟨q, List.mem_cons_of_mem _ hq, e⟩
theorem pos_prs : ∀ {l : List Bt}, (∀ x ∈ l, 0 < x.1) → ∀ x ∈ prs l, 0 < x.1
  | [], _, x, h => by simp [prs] at h
  | [_], _, x, h => by simp [prs] at h
  | a :: b :: r, hp, x, h => by
    rw [prs, List.mem_cons] at h
    rcases h with rfl | h
    · have := hp a (by simp); simp only; omega
    · exact pos_prs (fun x hx => hp x (by simp [hx])) x h
def lvB (S : List Bt) : Nat → List Bt
  | 0 => S
  | k + 1 => sortB (S ++ prs (lvB S k))
theorem lv_pos {S : List Bt} (hp : ∀ x ∈ S, 0 < x.1) : ∀ (k : Nat), ∀ x ∈ lvB S k, 0 < x.1
  | 0 => hp
  | k + 1 => fun x hx => by
    rw [lvB, mem_sortB, List.mem_append] at hx
    rcases hx with hx | hx
    · exact hp x hx
    · exact pos_prs (lv_pos hp k) x hx
theorem lv_srt {S : List Bt} (hS : Srt S) : ∀ (k : Nat), Srt (lvB S k)
  | 0 => hS
  | k + 1 => sortB_srt _
inductive Ms (S : List Bt) : Nat → Nat → List Nat → Prop
  | zero (m : Nat) : m ≤ S.length → Ms S 0 m [m]
  | succ (k m p m' : Nat) (ms : List Nat) : m ≤ S.length → m' ≤ m → Ms S k (2 * p) (m' :: ms) → Ms S (k + 1) (m + p) (m :: m' :: ms)
theorem ms_le {S : List Bt} {k t m : Nat} {ms l : List Nat} (h : Ms S k t l) (e : l = m :: ms) : m ≤ S.length := by
  cases h with
  | zero m hm => cases e; exact hm
  | succ k m p m' ms hm _ _ => cases e; exact hm
theorem ms_ex {S : List Bt} (hS : Srt S) (hp : ∀ x ∈ S, 0 < x.1) : ∀ (k t : Nat), t ≤ (lvB S k).length →
    ∃ m ms, Ms S k t (m :: ms) ∧ (∀ s, cntB s ((lvB S k).take t) = ((m :: ms).map fun m => cntB s (S.take m)).sum) ∧ ∀ j, j < m → ∃ x ∈ (lvB S k).take t, x = S.getD j (0, [])
  | 0, t, ht => ⟨t, [], .zero t ht, fun s => by simp [lvB], fun j hj => ⟨_, by
      rw [lvB, List.mem_take_iff_getElem]
      exact ⟨j, by simp only [lvB] at ht; omega, rfl⟩, by simp [List.getD, show j < S.length by simp only [lvB] at ht; omega]⟩⟩
  | k + 1, t, ht => by
    have hs := lv_srt hS k
    rw [lvB, length_sortB, List.length_append] at ht
    obtain ⟨m, p, hm, hpp, e, htk, h1, h2⟩ := take_two hS (srt_prs hs) ht
    have hl := length_prs (lvB S k)
    have h2p : 2 * p ≤ (lvB S k).length := by omega
    obtain ⟨m', ms, hMs, hc, hj⟩ := ms_ex hS hp k (2 * p) h2p
    have hmm : m' ≤ m := by
      by_cases c : m < m'
      · obtain ⟨x, hx, e⟩ := hj m c
        have hmS : m < S.length := by
          have := ms_le hMs rfl
          omega
        obtain ⟨q, hq, hlt⟩ := prs_cover hs (lv_pos hp k) h2p hx
        have h3 := h2 q hq (S.getD m (0, [])) (by rw [List.drop_eq_getElem_cons hmS, List.getD_eq_getElem?_getD, List.getElem?_eq_getElem hmS]; exact List.mem_cons_self)
        rw [e] at hlt
        omega
      · omega
    refine ⟨m, m' :: ms, e ▸ .succ k m p m' ms hm hmm hMs, fun s => ?_, fun j hjm => ⟨_, ?_, rfl⟩⟩
    · rw [lvB, htk, cntB_sortB, cntB_append, take_prs p _ h2p, cntB_prs p _ (by rw [List.length_take]; omega), hc s]
      simp
    · rw [lvB, htk, mem_sortB, List.mem_append]
      left
      rw [List.mem_take_iff_getElem]
      exact ⟨j, by omega, by simp [List.getD, show j < S.length by omega]⟩
theorem lv_len {S : List Bt} : ∀ (k c : Nat), S.length ≤ c * 2 ^ k → 2 * S.length - c ≤ (lvB S k).length
  | 0, c, h => by simp only [lvB]; omega
  | k + 1, c, h => by
    have := lv_len k (2 * c) (by rw [Nat.pow_succ] at h; rw [Nat.mul_comm 2 c, Nat.mul_assoc, Nat.mul_comm 2 (2 ^ k)]; exact h)
    rw [lvB, length_sortB, List.length_append, length_prs]
    omega
theorem ms_top {S : List Bt} {n : Nat} (hn : 2 ≤ n) : ∀ {k t m : Nat} {ms : List Nat}, Ms S k t (m :: ms) → 2 * n - 2 ≤ t → n ≤ m := by
  intro k t m ms h
  generalize hl : m :: ms = l at h
  induction h generalizing m ms with
  | zero m0 h0 => cases hl; omega
  | succ k m0 p m' ms0 h1 h2 h3 ih =>
    cases hl
    intro ht
    by_cases c : n ≤ m0
    · exact c
    · have := ih rfl (by omega)
      omega
def lnM (ms : List Nat) (i : Nat) : Nat := ms.countP fun m => decide (i < m)
theorem lnM_le {ms : List Nat} {i : Nat} : lnM ms i ≤ ms.length := List.countP_le_length
theorem lnM_pos {m : Nat} {ms : List Nat} {i : Nat} (h : i < m) : 1 ≤ lnM (m :: ms) i := by
  unfold lnM
  rw [List.countP_cons, if_pos (decide_eq_true h)]
  omega
theorem ms_length {S : List Bt} {k t : Nat} {l : List Nat} (h : Ms S k t l) : l.length = k + 1 := by
  induction h with
  | zero => rfl
  | succ k m p m' ms h1 h2 h3 ih => rw [List.length_cons, ih]
theorem ms_zero {S : List Bt} {k t : Nat} {l : List Nat} (h : Ms S k t l) : ∀ {m : Nat} {ms : List Nat}, l = m :: ms → ∀ i, m ≤ i → lnM l i = 0 := by
  induction h with
  | zero m0 h0 =>
    intro m ms e i hi
    cases e
    simp [lnM]; omega
  | succ k m0 p m' ms0 h1 h2 h3 ih =>
    intro m ms e i hi
    cases e
    have := ih rfl i (by omega)
    unfold lnM at this ⊢
    rw [List.countP_cons, this, if_neg (by simp; omega)]
def sumN (n : Nat) (f : Nat → Nat) : Nat := ((List.range n).map f).sum
theorem sumN_succ {n : Nat} {f : Nat → Nat} : sumN (n + 1) f = sumN n f + f n := by simp [sumN, List.range_succ]
theorem sumN_congr {n : Nat} {f g : Nat → Nat} (h : ∀ i, i < n → f i = g i) : sumN n f = sumN n g := by
  induction n with
  | zero => rfl
  | succ n ih => rw [sumN_succ, sumN_succ, ih fun i hi => h i (by omega), h n (by omega)]
theorem sumN_mul {n c : Nat} {f : Nat → Nat} : sumN n (fun i => c * f i) = c * sumN n f := by
  induction n with
  | zero => rfl
  | succ n ih => rw [sumN_succ, sumN_succ, ih, Nat.mul_add]
theorem sumN_tail {m n c : Nat} {f : Nat → Nat} (hmn : m ≤ n) (h : ∀ i, m ≤ i → i < n → f i = c) : sumN n f = sumN m f + (n - m) * c := by
  induction n with
  | zero =>
    obtain rfl : m = 0 := by omega
    simp
  | succ n ih =>
    by_cases e : m = n + 1
    · subst e; simp
    · rw [sumN_succ, ih (by omega) fun i h1 h2 => h i h1 (by omega), h n (by omega) (by omega), show n + 1 - m = (n - m) + 1 by omega, Nat.add_mul]
      omega
theorem ms_kraft {S : List Bt} {k t : Nat} {l : List Nat} (h : Ms S k t l) : ∀ {m : Nat} {ms : List Nat}, l = m :: ms → ∀ n, m ≤ n → sumN n (fun i => 2 ^ (k + 1 - lnM l i)) + 2 ^ k * t = 2 ^ (k + 1) * n := by
  induction h with
  | zero m0 h0 =>
    intro m ms e n hn
    cases e
    rw [sumN_tail hn (c := 2) fun i h1 _ => by simp [lnM, show ¬ i < m0 by omega]]
    rw [sumN_congr (g := fun _ => 1 * 1) fun i hi => by simp [lnM, hi]]
    rw [sumN_mul]
    have : sumN m0 (fun _ => 1) = m0 := by
      have := sumN_tail (m := 0) (n := m0) (c := 1) (f := fun _ => 1) (Nat.zero_le _) fun _ _ _ => rfl
      rw [this]; simp [sumN]
    rw [this]
    simp only [Nat.zero_add, Nat.pow_zero, Nat.pow_one]
    omega
  | succ k m0 p m' ms0 h1 h2 h3 ih =>
    intro m ms e n hn
    cases e
    have hz := ms_zero (.succ k m0 p m' ms0 h1 h2 h3) rfl
    rw [sumN_tail hn (c := 2 ^ (k + 1 + 1)) fun i q _ => by rw [hz i q, Nat.sub_zero]]
    have e1 : sumN m0 (fun i => 2 ^ (k + 1 + 1 - lnM (m0 :: m' :: ms0) i)) = sumN m0 fun i => 2 ^ (k + 1 - lnM (m' :: ms0) i) := sumN_congr fun i hi => by
      have hL : lnM (m' :: ms0) i ≤ k + 1 := by have := lnM_le (ms := m' :: ms0) (i := i); rw [ms_length h3] at this; exact this
      have : lnM (m0 :: m' :: ms0) i = lnM (m' :: ms0) i + 1 := by
        unfold lnM
        rw [List.countP_cons (a := m0), if_pos (decide_eq_true hi)]
      rw [this, show k + 1 + 1 - (lnM (m' :: ms0) i + 1) = k + 1 - lnM (m' :: ms0) i by omega]
    rw [e1]
    have hi := ih rfl m0 h2
    have q1 : 2 ^ (k + 1) * (m0 + p) = 2 ^ (k + 1) * m0 + 2 ^ k * (2 * p) := by rw [Nat.mul_add, ← Nat.mul_assoc, Nat.pow_succ]
    have q2 : 2 ^ (k + 1 + 1) * n = 2 ^ (k + 1 + 1) * (n - m0) + 2 ^ (k + 1 + 1) * m0 := by rw [← Nat.mul_add]; congr 1; omega
    have q3 : 2 ^ (k + 1 + 1) * m0 = 2 ^ (k + 1) * m0 + 2 ^ (k + 1) * m0 := by rw [Nat.pow_succ 2 (k + 1), Nat.mul_assoc, Nat.two_mul, Nat.mul_add]
    rw [Nat.mul_comm (n - m0)]
    omega
theorem ms_full {S : List Bt} {k : Nat} {m : Nat} {ms : List Nat} {n : Nat} (hn : 2 ≤ n) (h : Ms S k (2 * n - 2) (m :: ms)) (hm : m = n) : sumN n (fun i => 2 ^ (k + 1 - lnM (m :: ms) i)) = 2 ^ (k + 1) := by
  have hk := ms_kraft h rfl n (by omega)
  have e : 2 ^ (k + 1) * n = 2 ^ k * (2 * n - 2) + 2 ^ (k + 1) := by
    obtain ⟨j, rfl⟩ : ∃ j, n = j + 1 := ⟨n - 1, by omega⟩
    rw [show 2 * (j + 1) - 2 = 2 * j by omega, Nat.mul_add, Nat.mul_one, Nat.pow_succ, Nat.mul_assoc]
  omega
def usB (cs : List Nat) : List Nat := (List.range cs.length).filter fun s => decide (0 < cs.getD s 0)
def sgB (cs : List Nat) : List Bt := (usB cs).map fun s => (cs.getD s 0, [s])
def bestB (cs : List Nat) (most : Nat) : List Bt := if (sgB cs).length < 2 then sgB cs else (lvB (sortB (sgB cs)) (most - 1)).take (2 * (sgB cs).length - 2)
def lensB (cs : List Nat) (most : Nat) : List Nat := (List.range cs.length).map fun s => cntB s (bestB cs most)
theorem perm_insR {A : List Bt} {x : Bt} : (insR A x).Perm (x :: A) := by
  have h := List.takeWhile_append_dropWhile (p := fun p : Bt => decide (p.1 ≤ x.1)) (l := A)
  have := List.perm_middle (a := x) (l₁ := A.takeWhile fun p : Bt => decide (p.1 ≤ x.1)) (l₂ := A.dropWhile fun p : Bt => decide (p.1 ≤ x.1))
  rw [h] at this
  exact this
theorem perm_foldl : ∀ {S A : List Bt}, (S.foldl insR A).Perm (S ++ A)
  | [], _ => List.Perm.refl _
  | x :: S, A => by
    rw [List.foldl_cons]
    refine (perm_foldl (S := S)).trans ?_
    refine (List.Perm.append_left S perm_insR).trans ?_
    exact List.perm_middle
theorem perm_sortB {S : List Bt} : (sortB S).Perm S := by
  have := perm_foldl (S := S) (A := [])
  rw [List.append_nil] at this
  exact this
def ysB (cs : List Nat) : List Nat := (sortB (sgB cs)).map fun b => b.2.headD 0
theorem perm_ys {cs : List Nat} : (ysB cs).Perm (usB cs) := by
  have := (perm_sortB (S := sgB cs)).map fun b => b.2.headD 0
  unfold ysB
  refine this.trans ?_
  rw [sgB, List.map_map]
  have e : ((fun b : Bt => b.2.headD 0) ∘ fun s => (cs.getD s 0, [s])) = id := rfl
  rw [e, List.map_id]
theorem mem_us {cs : List Nat} {s : Nat} : s ∈ usB cs ↔ s < cs.length ∧ 0 < cs.getD s 0 := by simp [usB]
theorem mem_ys {cs : List Nat} {s : Nat} : s ∈ ysB cs ↔ s < cs.length ∧ 0 < cs.getD s 0 := by rw [perm_ys.mem_iff, mem_us]
theorem nodup_ys {cs : List Nat} : (ysB cs).Nodup := perm_ys.nodup_iff.2 (List.nodup_range.sublist List.filter_sublist)
theorem sg_eq {cs : List Nat} : sortB (sgB cs) = (ysB cs).map fun s => (cs.getD s 0, [s]) := by
  unfold ysB
  rw [List.map_map]
  have : ∀ b ∈ sortB (sgB cs), ((fun s => (cs.getD s 0, [s])) ∘ fun b : Bt => b.2.headD 0) b = b := by
    intro b hb
    rw [mem_sortB] at hb
    obtain ⟨s, -, rfl⟩ := List.mem_map.1 hb
    rfl
  rw [List.map_congr_left this, List.map_id']
theorem length_ys {cs : List Nat} : (ysB cs).length = (sgB cs).length := by rw [ysB, List.length_map, length_sortB]
theorem cntB_ys {cs : List Nat} {s : Nat} : ∀ (l : List Nat), cntB s (l.map fun s => (cs.getD s 0, [s])) = l.count s
  | [] => rfl
  | x :: l => by rw [List.map_cons, cntB_cons, cntB_ys l, List.count_cons]; simp [List.count_cons]; omega
theorem cnt_take {cs : List Nat} {i m : Nat} (hi : i < (ysB cs).length) : cntB (ysB cs)[i] ((sortB (sgB cs)).take m) = if i < m then 1 else 0 := by
  rw [sg_eq, ← List.map_take, cntB_ys]
  have hn := nodup_ys (cs := cs)
  generalize ysB cs = l at hi hn
  rw [(hn.sublist (List.take_sublist m l)).count]
  have : l[i] ∈ l.take m ↔ i < m := by
    rw [List.mem_take_iff_getElem]
    constructor
    · rintro ⟨j, hj, e⟩
      have hp := List.pairwise_iff_getElem.1 hn
      have hj' : j < l.length := by omega
      rcases Nat.lt_trichotomy j i with q | q | q
      · exact absurd e (hp j i hj' hi q)
      · omega
      · exact absurd e.symm (hp i j hi hj' q)
    · intro h
      exact ⟨i, by omega, rfl⟩
  simp only [this]
theorem cnt_none {cs : List Nat} {s m : Nat} (hs : s ∉ ysB cs) : cntB s ((sortB (sgB cs)).take m) = 0 := by
  rw [sg_eq, ← List.map_take, cntB_ys, List.count_eq_zero]
  exact fun h => hs (List.mem_of_mem_take h)
theorem sum_lnM {i : Nat} : ∀ (ms : List Nat), (ms.map fun m => if i < m then 1 else 0).sum = lnM ms i
  | [] => rfl
  | m :: ms => by
    rw [List.map_cons, List.sum_cons, sum_lnM ms]
    unfold lnM
    rw [List.countP_cons]
    simp only [decide_eq_true_eq]
    omega
theorem sum_zero : ∀ {ms : List Nat} {f : Nat → Nat}, (∀ m, f m = 0) → (ms.map f).sum = 0
  | [], _, _ => rfl
  | m :: ms, f, h => by rw [List.map_cons, List.sum_cons, h m, sum_zero h]
theorem sg_pos {cs : List Nat} : ∀ x ∈ sortB (sgB cs), 0 < x.1 := by
  intro x hx
  rw [mem_sortB] at hx
  obtain ⟨s, hs, rfl⟩ := List.mem_map.1 hx
  exact (mem_us.1 hs).2
theorem lens_facts {cs : List Nat} {most : Nat} (h1 : 1 ≤ most) (hn : 2 ≤ (sgB cs).length) (h2 : (sgB cs).length ≤ 2 ^ most) :
    ∃ m ms, m = (sgB cs).length ∧ (m :: ms).length = most ∧ (∀ i (h : i < (ysB cs).length), cntB (ysB cs)[i] (bestB cs most) = lnM (m :: ms) i) ∧ (∀ s, s ∉ ysB cs → cntB s (bestB cs most) = 0) ∧
      sumN m (fun i => 2 ^ (most - lnM (m :: ms) i)) = 2 ^ most := by
  obtain ⟨k, rfl⟩ : ∃ k, most = k + 1 := ⟨most - 1, by omega⟩
  have hb : bestB cs (k + 1) = (lvB (sortB (sgB cs)) k).take (2 * (sgB cs).length - 2) := by rw [bestB, if_neg (by omega), Nat.add_sub_cancel]
  have hl := lv_len (S := sortB (sgB cs)) k 2 (by rw [length_sortB, Nat.mul_comm, ← Nat.pow_succ]; exact h2)
  rw [length_sortB] at hl
  obtain ⟨m, ms, hMs, hc, -⟩ := ms_ex (sortB_srt _) sg_pos k _ hl
  have hm : m = (sgB cs).length := by
    have a := ms_top hn hMs (Nat.le_refl _)
    have b := ms_le hMs rfl
    rw [length_sortB] at b
    omega
  refine ⟨m, ms, hm, by rw [ms_length hMs], fun i hi => ?_, fun s hs => ?_, ?_⟩
  · rw [hb, hc, ← sum_lnM]
    congr 1
    exact List.map_congr_left fun m _ => cnt_take hi
  · rw [hb, hc]
    exact sum_zero fun m => cnt_none hs
  · have := ms_full hn hMs hm
    rw [hm] at this ⊢
    exact this
theorem prK_prs : ∀ (k : Nat) (l : List Bt), l.length / 2 = k → prK l k = prs l
  | 0, [], _ => rfl
  | 0, [_], _ => by simp [prK, prs]
  | 0, _ :: _ :: _, h => by simp only [List.length_cons] at h; omega
  | k + 1, [], h => by simp at h
  | k + 1, [_], h => by simp at h
  | k + 1, x :: y :: r, h => by
    have ih := prK_prs k r (by simp only [List.length_cons] at h; omega)
    rw [prs, ← ih]
    unfold prK
    rw [List.range_succ_eq_map, List.map_cons, List.map_map]
    congr 1
theorem mem_prs : ∀ {l : List Bt} {q : Bt}, q ∈ prs l → ∃ a ∈ l, ∃ b ∈ l, q = (a.1 + b.1, a.2 ++ b.2)
  | [], q, h => by simp [prs] at h
  | [_], q, h => by simp [prs] at h
  | x :: y :: r, q, h => by
    rw [prs, List.mem_cons] at h
    rcases h with rfl | h
    · exact ⟨x, by simp, y, by simp, rfl⟩
    · obtain ⟨a, ha, b, hb, e⟩ := mem_prs h
      exact ⟨a, by simp [ha], b, by simp [hb], e⟩
theorem lv_big {S : List Bt} (hs : ∀ p ∈ S, p.1 ≤ 4294967296 ∧ p.2.length = 1) : ∀ (k : Nat), ∀ x ∈ lvB S k, x.1 ≤ 4294967296 * 2 ^ k ∧ 1 ≤ x.2.length ∧ x.2.length ≤ 2 ^ k
  | 0 => fun x hx => by have := hs x hx; simp only [Nat.pow_zero]; omega
  | k + 1 => fun x hx => by
    rw [lvB, mem_sortB, List.mem_append] at hx
    have hp : 1 ≤ 2 ^ k := Nat.one_le_two_pow
    rw [Nat.pow_succ]
    rcases hx with hx | hx
    · have := hs x hx
      omega
    · obtain ⟨a, ha, b, hb, rfl⟩ := mem_prs hx
      have h1 := lv_big hs k a ha
      have h2 := lv_big hs k b hb
      simp only [List.length_append]
      omega
theorem lv_max {S : List Bt} : ∀ (k : Nat), (lvB S k).length ≤ 2 * S.length
  | 0 => by simp only [lvB]; omega
  | k + 1 => by
    have := lv_max (S := S) k
    rw [lvB, length_sortB, List.length_append, length_prs]
    omega
end Go.Proofs.YtbmppmdklappiaaDoor.Aw
namespace Go.Proofs.YtbmppmdklappiaaDoor.Aw
open Go
set_option linter.unusedSimpArgs false
set_option linter.unusedVariables false
theorem bC_gl' {nl : Bool} {l : List Bt} : ∀ n cells, AO.row n cells ∈ [AO.row nl (bC l)] → AV.gl.glL 1 cells := by
  intro n cells h
  simp only [List.mem_singleton, AO.row.injEq] at h
  obtain ⟨-, rfl⟩ := h
  exact glL_of_free _ _ free_bC
set_option maxRecDepth 100000 in
theorem slices_SortStable_h [Tabs Tryd.prog] (l : List Bt) (N : Nat) (hN : N = l.length) (hl : N ≤ 10000) :
    HCon Tryd.prog n_slices_SortStableFunchuff_batchhuff_batch [.own 1000 0 (some 2) 0 N, cmpF] [.row false (bC l)] (.tup []) [(1000, 0, .row false (bC (sortB l)))] (KS N + 1) := by
  refine HCon.of' mix Tryd.func113 rfl Tryd.ntmps113 e_slices_SortStableFunchuff_batchhuff_batch r_slices_SortStableFunchuff_batchhuff_batch (by simp) (by simp only [AV.gl.glL, AV.gl, cmpF, and_true]; omega) bC_gl ?_
  unfold s_slices_SortStableFunchuff_batchhuff_batch
  have hc := slices_stable_h l N hN hl
  repeat (first | refine wA ?_ | refine wB ?_ | refine wC rfl ?_ | refine wD rfl ?_ | refine wE ?_ | refine wF (by omega) ?_ | ((first | refine wG ?_ | refine wH ?_ | refine wI ?_ | refine wJ ?_ | refine wK ?_ | refine wL ?_); simp (disch := omega) only [wP, wZ, undef, seval, if_pos, if_neg, aStore, frz, AV.flat, ↓reduceIte, ne_eq, reduceCtorEq, ByteArray.size]))
  refine goC_h [(1000, 0)] 2000 hc (by simp) (by simp) ?_ ?_ ?_
  iterate 2 (case _ => simp (disch := omega) only [wP, wZ, undef, seval, if_pos, if_neg, aStore, frz, AV.flat, ↓reduceIte, ne_eq, reduceCtorEq, ByteArray.size, renL_bC, cmpF])
  repeat (first | refine wA ?_ | refine wB ?_ | refine wC rfl ?_ | refine wD rfl ?_ | refine wE ?_ | refine wF (by omega) ?_ | ((first | refine wG ?_ | refine wH ?_ | refine wI ?_ | refine wJ ?_ | refine wK ?_ | refine wL ?_); simp (disch := omega) only [wP, wZ, undef, seval, if_pos, if_neg, aStore, frz, AV.flat, ↓reduceIte, ne_eq, reduceCtorEq, ByteArray.size, renL_bC, outOf_nil]))
  all_goals omega
theorem lvB0 {S : List Bt} : lvB S 0 = S := rfl
theorem renL_bA {ρ : Nat → Nat → Nat × Nat} {l : List Bt} : ren.renL ρ (l.map bA) = l.map bA := renL_free ρ _ free_bA
def bestL (l : List Bt) (most : Nat) : List Bt := if l.length < 2 then l else (lvB (sortB l) (most - 1)).take (2 * l.length - 2)
def KC : Nat := 100 + 20 * (KS 640 + 20)
theorem KC_pos : 1 ≤ KC := Nat.le_trans (by omega : 1 ≤ 100) (Nat.le_add_right _ _)
theorem KS_le {n : Nat} (h : n ≤ 640) : KS n ≤ KS 640 := by
  unfold KS KM
  have h1 : 10 * n * n ≤ 10 * 640 * 640 := Nat.mul_le_mul (by omega) h
  have h2 : 10 * n * n * (2 * n + 20) ≤ 10 * 640 * 640 * (2 * 640 + 20) := Nat.mul_le_mul h1 (by omega)
  omega
set_option maxHeartbeats 1000000 in
set_option maxRecDepth 100000 in
theorem huff_cheapest_h [Tabs Tryd.prog] (l : List Bt) (n most : Nat) (hn : n = l.length) (hl : n ≤ 320) (h1 : 1 ≤ most) (h15 : most ≤ 15) (hbig : n ≤ 2 ^ most) (hs : ∀ p ∈ l, p.1 ≤ 4294967296 ∧ p.2.length = 1) :
    HCon Tryd.prog n_huff_cheapest [.own 1000 0 (some 2) 0 n, int (most : Int)] [.row (nl0 n) (bC l)] (.sl (nl0 n) (some 2) ((bestL l most).map bA)) [] KC := by
  refine HCon.of' mix Tryd.func110 rfl Tryd.ntmps110 e_huff_cheapest r_huff_cheapest (by simp) (by simp only [AV.gl.glL, AV.gl, int, and_true]; omega) bC_gl' ?_
  unfold s_huff_cheapest
  have hbl : (bC l).length = n * 2 := by rw [length_bC, hn]
  have hbl2 : (bC (sortB l)).length = n * 2 := by rw [length_bC, length_sortB, hn]
  have hch : ∀ k : List Bt, chunks (some 2) k.length (bC k) = k.map bA := fun k => chunks_bC
  by_cases c : n < 2
  · have d : decide ((n : Int) < 2) = true := decide_eq_true (by omega)
    have dl : decide ((l.length : Int) < 2) = true := decide_eq_true (by omega)
    have hb : bestL l most = l := by rw [bestL, if_pos (by omega)]
    rw [hb]
    have hcn := hch l
    rw [← hn] at hcn
    iterate 2 (first | refine wA ?_ | refine wB ?_ | refine wC rfl ?_ | refine wD rfl ?_ | refine wE ?_ | refine wF (by omega) ?_ | ((first | refine wG ?_ | refine wH ?_ | refine wI ?_ | refine wJ ?_ | refine wK ?_ | refine wL ?_); simp (disch := omega) only [wP, wZ, undef, seval, if_pos, if_neg, aStore, frz, AV.flat, ↓reduceIte, ne_eq, reduceCtorEq, ByteArray.size]))
    refine SWp.frzo 1000 0 (nl := nl0 n) (cells := bC l) (by simp (disch := omega) only [wP, wZ, undef, seval, if_pos, if_neg, aStore, frz, AV.flat, ↓reduceIte, ne_eq, reduceCtorEq, ByteArray.size]) free_bC ?_
    refine SWp.le (le_mk (N := 31) (gc := 1) (l := [(0, .sl (nl0 n) (some 2) (l.map bA))]) (h := []) rfl ?_ ?_ ?_) ?_
    iterate 3 (case _ => simp (disch := omega) only [wP, wZ, undef, seval, if_pos, if_neg, aStore, frz, AV.flat, ↓reduceIte, ne_eq, reduceCtorEq, ByteArray.size, fR, hcn, hbl])
    repeat (first | refine wA ?_ | refine wB ?_ | refine wC rfl ?_ | refine wD rfl ?_ | refine wE ?_ | refine wF (by omega) ?_ | ((first | refine wG ?_ | refine wH ?_ | refine wI ?_ | refine wJ ?_ | refine wK ?_ | refine wL ?_); simp (disch := omega) only [wP, wZ, undef, seval, if_pos, if_neg, aStore, frz, AV.flat, ↓reduceIte, ne_eq, reduceCtorEq, ByteArray.size, d, dl]))
    exact KC_pos
  · have d : decide ((n : Int) < 2) = false := decide_eq_false (by omega)
    have hn0 : nl0 n = false := nl0_pos (by omega)
    rw [hn0]
    have hc := slices_SortStable_h l n hn (by omega)
    have hcn := hch (sortB l)
    rw [length_sortB, ← hn] at hcn
    have hKS := KS_le (n := n) (by omega)
    obtain ⟨Q, hQ⟩ : ∃ Q, Q = KS 640 := ⟨_, rfl⟩
    have hKC : KC = 100 + 20 * (Q + 20) := by rw [hQ]; rfl
    rw [← hQ] at hKS
    repeat (first | refine wA ?_ | refine wB ?_ | refine wC rfl ?_ | refine wD rfl ?_ | refine wE ?_ | refine wF (by omega) ?_ | ((first | refine wG ?_ | refine wH ?_ | refine wI ?_ | refine wJ ?_ | refine wK ?_ | refine wL ?_); simp (disch := omega) only [wP, wZ, undef, seval, if_pos, if_neg, aStore, frz, AV.flat, ↓reduceIte, ne_eq, reduceCtorEq, ByteArray.size, d]))
    refine goC_h [(1000, 0)] 2000 hc (by simp) (by simp) ?_ ?_ ?_
    iterate 2 (case _ => simp (disch := omega) only [wP, wZ, undef, seval, if_pos, if_neg, aStore, frz, AV.flat, ↓reduceIte, ne_eq, reduceCtorEq, ByteArray.size, renL_bC, cmpF])
    obtain ⟨m1, hm1⟩ : ∃ m1, m1 = most - 1 := ⟨_, rfl⟩
    have em : (most : Int) - 1 = (m1 : Int) := by omega
    repeat (first | refine wA ?_ | refine wB ?_ | refine wC rfl ?_ | refine wD rfl ?_ | refine wE ?_ | refine wF (by omega) ?_ | ((first | refine wG ?_ | refine wH ?_ | refine wI ?_ | refine wJ ?_ | refine wK ?_ | refine wL ?_); simp (disch := omega) only [wP, wZ, undef, seval, if_pos, if_neg, aStore, frz, AV.flat, ↓reduceIte, ne_eq, reduceCtorEq, ByteArray.size, renL_bC, em]))
    refine SWp.le (le_mk (N := 31) (gc := Q + 20) (l := [(0, .own 1000 0 (some 2) 0 n), (5, .own 1000 0 (some 2) 0 n), (14, int (m1 : Int)), (15, int 0)]) (h := [(1000, 0, .row false (bC (sortB l)))]) rfl ?_ ?_ ?_) ?_
    · show 1 + (KS n + 1) ≤ Q + 20
      omega
    iterate 2 (case _ => simp (disch := omega) only [wP, wZ, undef, seval, if_pos, if_neg, aStore, frz, AV.flat, ↓reduceIte, ne_eq, reduceCtorEq, ByteArray.size])
    refine SWp.frzo 1000 0 (nl := false) (cells := bC (sortB l)) (by simp (disch := omega) only [wP, wZ, undef, seval, if_pos, if_neg, aStore, frz, AV.flat, ↓reduceIte, ne_eq, reduceCtorEq, ByteArray.size]) free_bC ?_
    refine SWp.le (le_mk (N := 31) (gc := Q + 20) (l := [(0, .sl false (some 2) ((sortB l).map bA)), (5, .sl false (some 2) ((sortB l).map bA)), (14, int (m1 : Int)), (15, int 0)]) (h := []) rfl ?_ ?_ ?_) ?_
    · exact Nat.le_refl _
    iterate 2 (case _ => simp (disch := omega) only [wP, wZ, undef, seval, if_pos, if_neg, aStore, frz, AV.flat, ↓reduceIte, ne_eq, reduceCtorEq, ByteArray.size, fR, hcn, hbl2])
    refine SWp.loop (α := Nat) (fun k => mk 31 (Q + 20 + k * (Q + 20)) [(0, .sl false (some 2) ((sortB l).map bA)), (5, .sl false (some 2) ((lvB (sortB l) k).map bA)), (14, int (m1 : Int)), (15, int (k : Int))] [])
      (fun k => k ≤ m1) (fun k => m1 - k) 0 (Nat.zero_le _) (le_mk rfl ?_ ?_ ?_) ?_
    · show Q + 20 ≤ Q + 20 + 0 * (Q + 20)
      omega
    iterate 2 (case _ => simp (disch := omega) only [wP, wZ, undef, seval, if_pos, if_neg, aStore, frz, AV.flat, ↓reduceIte, ne_eq, reduceCtorEq, ByteArray.size, lvB0])
    clear hc hcn hbl hbl2 hch
    intro k hk _
    by_cases ck : k < m1
    · have dk : decide ((k : Int) < (m1 : Int)) = true := decide_eq_true (by omega)
      have hlb := lv_big (S := sortB l) (fun p hp => hs p (mem_sortB.1 hp)) k
      have hlm := lv_max (S := sortB l) k
      have hsl : (sortB l).length = n := by rw [length_sortB, hn]
      rw [hsl] at hlm
      have hp2 : 2 ^ k ≤ 16384 := Nat.pow_le_pow_right (n := 2) (by omega) (show k ≤ 14 by omega)
      have hnx : lvB (sortB l) (k + 1) = sortB (sortB l ++ prs (lvB (sortB l) k)) := rfl
      obtain ⟨B, hBd⟩ : ∃ B, B = lvB (sortB l) k := ⟨_, rfl⟩
      rw [← hBd] at hlb hlm hnx
      have hpl := length_prs B
      have cP := huff_pairs_c false B (by omega) (fun p hp => by have := hlb p hp; omega)
      rw [prK_prs _ _ rfl] at cP
      obtain ⟨N2, hN2⟩ : ∃ N2, N2 = (sortB l).length + (prs B).length := ⟨_, rfl⟩
      have cC := slices_ConcatB false (nl0 (B.length / 2)) (sortB l) (prs B) (by omega) (by omega) (by omega)
      rw [← hN2] at cC
      have cS := slices_SortStable_h (sortB l ++ prs B) N2 (by simp only [List.length_append]; omega) (by omega)
      have hK2 := KS_le (n := N2) (by omega)
      rw [← hQ] at hK2
      rw [← hBd]
      repeat (first | refine wA ?_ | refine wB ?_ | refine wC rfl ?_ | refine wD rfl ?_ | refine wE ?_ | refine wF (by omega) ?_ | ((first | refine wG ?_ | refine wH ?_ | refine wI ?_ | refine wJ ?_ | refine wK ?_ | refine wL ?_); simp (disch := omega) only [wP, wZ, undef, seval, if_pos, if_neg, aStore, frz, AV.flat, ↓reduceIte, ne_eq, reduceCtorEq, ByteArray.size, dk]))
      refine goC_p _ (.inl ⟨by simp only [AV.free, AV.free.freeL, free_bA, Bool.and_self], cP⟩) ?_
      repeat (first | refine wA ?_ | refine wB ?_ | refine wC rfl ?_ | refine wD rfl ?_ | refine wE ?_ | refine wF (by omega) ?_ | ((first | refine wG ?_ | refine wH ?_ | refine wI ?_ | refine wJ ?_ | refine wK ?_ | refine wL ?_); simp (disch := omega) only [wP, wZ, undef, seval, if_pos, if_neg, aStore, frz, AV.flat, ↓reduceIte, ne_eq, reduceCtorEq, ByteArray.size, free_bA]))
      refine goC_h [] 3000 cC (by simp) (by simp) ?_ ?_ ?_
      iterate 2 (case _ => simp (disch := omega) only [wP, wZ, undef, seval, if_pos, if_neg, aStore, frz, AV.flat, ↓reduceIte, ne_eq, reduceCtorEq, ByteArray.size, renL_bA])
      repeat (first | refine wA ?_ | refine wB ?_ | refine wC rfl ?_ | refine wD rfl ?_ | refine wE ?_ | refine wF (by omega) ?_ | ((first | refine wG ?_ | refine wH ?_ | refine wI ?_ | refine wJ ?_ | refine wK ?_ | refine wL ?_); simp (disch := omega) only [wP, wZ, undef, seval, if_pos, if_neg, aStore, frz, AV.flat, ↓reduceIte, ne_eq, reduceCtorEq, ByteArray.size, renL_bC, renL_bA]))
      refine goC_h [(4022, Q + 20 + k * (Q + 20) + 4)] 5000 cS (by simp) (by simp) ?_ ?_ ?_
      iterate 2 (case _ => simp (disch := omega) only [wP, wZ, undef, seval, if_pos, if_neg, aStore, frz, AV.flat, ↓reduceIte, ne_eq, reduceCtorEq, ByteArray.size, renL_bC, cmpF])
      have hch2 : chunks (some 2) N2 (bC (sortB (sortB l ++ prs B))) = (sortB (sortB l ++ prs B)).map bA := by
        have := chunks_bC (l := sortB (sortB l ++ prs B))
        rw [length_sortB, List.length_append, ← hN2] at this
        exact this
      have hbl3 : (bC (sortB (sortB l ++ prs B))).length = N2 * 2 := by rw [length_bC, length_sortB, List.length_append, hN2]
      have hkk : (k + 1) * (Q + 20) = k * (Q + 20) + (Q + 20) := Nat.succ_mul _ _
      change SWp _ _ _ _
      refine SWp.le (le_mk (N := 31) (gc := Q + 20 + (k + 1) * (Q + 20)) (l := [(0, .sl false (some 2) ((sortB l).map bA)), (5, .own 4022 (Q + 20 + k * (Q + 20) + 4) (some 2) 0 N2), (14, int (m1 : Int)), (15, int (k : Int))]) (h := [(4022, Q + 20 + k * (Q + 20) + 4, .row false (bC (sortB (sortB l ++ prs B))))]) rfl ?_ ?_ ?_) ?_
      · show Q + 20 + k * (Q + 20) + 5 + (KS N2 + 1) ≤ _
        omega
      iterate 2 (case _ => simp (disch := omega) only [wP, wZ, undef, seval, if_pos, if_neg, aStore, frz, AV.flat, ↓reduceIte, ne_eq, reduceCtorEq, ByteArray.size, renL_bC])
      refine SWp.frzo 4022 (Q + 20 + k * (Q + 20) + 4) (nl := false) (cells := bC (sortB (sortB l ++ prs B))) (by simp (disch := omega) only [wP, wZ, undef, seval, if_pos, if_neg, aStore, frz, AV.flat, ↓reduceIte, ne_eq, reduceCtorEq, ByteArray.size]) free_bC ?_
      refine SWp.le (le_mk (N := 31) (gc := Q + 20 + (k + 1) * (Q + 20)) (l := [(0, .sl false (some 2) ((sortB l).map bA)), (5, .sl false (some 2) ((sortB (sortB l ++ prs B)).map bA)), (14, int (m1 : Int)), (15, int (k : Int))]) (h := []) rfl ?_ ?_ ?_) ?_
      · exact Nat.le_refl _
      iterate 2 (case _ => simp (disch := omega) only [wP, wZ, undef, seval, if_pos, if_neg, aStore, frz, AV.flat, ↓reduceIte, ne_eq, reduceCtorEq, ByteArray.size, fR, hch2, hbl3])
      repeat (first | refine wA ?_ | refine wB ?_ | refine wC rfl ?_ | refine wD rfl ?_ | refine wE ?_ | refine wF (by omega) ?_ | ((first | refine wG ?_ | refine wH ?_ | refine wI ?_ | refine wJ ?_ | refine wK ?_ | refine wL ?_); simp (disch := omega) only [wP, wZ, undef, seval, if_pos, if_neg, aStore, frz, AV.flat, ↓reduceIte, ne_eq, reduceCtorEq, ByteArray.size]))
      refine At.of (k + 1) (by omega) (by omega) rfl rfl (Nat.le_refl _) ?_ ?_
      iterate 2 (case _ => simp (disch := omega) only [wP, wZ, undef, seval, if_pos, if_neg, aStore, frz, AV.flat, ↓reduceIte, ne_eq, reduceCtorEq, ByteArray.size, hnx])
    · have dk : decide ((k : Int) < (m1 : Int)) = false := decide_eq_false (by omega)
      obtain rfl : k = m1 := by omega
      have hsl : (sortB l).length = n := by rw [length_sortB, hn]
      have hlen := lv_len (S := sortB l) k 2 (by
        have : 2 * 2 ^ k = 2 ^ most := by rw [show most = k + 1 by omega, Nat.pow_succ, Nat.mul_comm]
        rw [hsl]; omega)
      rw [hsl] at hlen
      have hbe : bestL l most = (lvB (sortB l) k).take (2 * n - 2) := by rw [bestL, if_neg (by omega), ← hm1, ← hn]
      obtain ⟨n2, hn2⟩ : ∃ n2, n2 = 2 * n := ⟨_, rfl⟩
      obtain ⟨t, ht⟩ : ∃ t, t = 2 * n - 2 := ⟨_, rfl⟩
      have e1 : 2 * (n : Int) = (n2 : Int) := by omega
      have e2 : (n2 : Int) - 2 = (t : Int) := by omega
      rw [hbe, ← ht]
      rw [← ht] at hlen
      repeat (first | refine wA ?_ | refine wB ?_ | refine wC rfl ?_ | refine wD rfl ?_ | refine wE ?_ | refine wF (by omega) ?_ | ((first | refine wG ?_ | refine wH ?_ | refine wI ?_ | refine wJ ?_ | refine wK ?_ | refine wL ?_); simp (disch := omega) only [wP, wZ, undef, seval, if_pos, if_neg, aStore, frz, AV.flat, ↓reduceIte, ne_eq, reduceCtorEq, ByteArray.size, dk, hsl, e1, e2]))
      have hkk : k * (Q + 20) ≤ 15 * (Q + 20) := Nat.mul_le_mul_right _ (by omega)
      exact ⟨List.map_take.symm, by rw [hKC]; omega⟩
end Go.Proofs.YtbmppmdklappiaaDoor.Aw
namespace Go.Proofs.YtbmppmdklappiaaDoor.Aw
open Go
set_option linter.unusedSimpArgs false
set_option linter.unusedVariables false
def bdC (x : Int) : Bool := decide (x < 0) || decide (4294967296 < x)
def usedC (cs : List Int) : Nat := cs.countP fun x => decide (0 < x)
def badE (cs : List Int) (most : Int) : Nat := if most < 1 ∨ 15 < most then 1 else if 320 < cs.length then 4 else if cs.any bdC = true then 1 else if 2 ^ most.toNat < usedC cs then 4 else 0
theorem usedC_snoc {cs : List Int} {k : Nat} (h : k < cs.length) : usedC (cs.take (k + 1)) = usedC (cs.take k) + if 0 < cs[k] then 1 else 0 := by
  unfold usedC
  rw [List.take_succ_eq_append_getElem h, List.countP_append]
  simp [List.countP_cons]
theorem usedC_le {cs : List Int} : usedC cs ≤ cs.length := List.countP_le_length
end Go.Proofs.YtbmppmdklappiaaDoor.Aw
namespace Go.Proofs.YtbmppmdklappiaaDoor.Aw
open Go
set_option linter.unusedSimpArgs false
set_option linter.unusedVariables false
def sgP (c : List Nat) (k : Nat) : List Bt := ((List.range k).filter fun s => decide (0 < c.getD s 0)).map fun s => (c.getD s 0, [s])
theorem sgP_all {c : List Nat} : sgP c c.length = sgB c := rfl
theorem sgP_pos {c : List Nat} {k : Nat} (h : 0 < c.getD k 0) : sgP c (k + 1) = sgP c k ++ [(c.getD k 0, [k])] := by
  simp only [sgP, List.range_succ, List.filter_append, List.map_append]
  rw [List.filter_cons_of_pos (by simpa using h)]
  rfl
theorem sgP_not {c : List Nat} {k : Nat} (h : ¬ 0 < c.getD k 0) : sgP c (k + 1) = sgP c k := by
  simp only [sgP, List.range_succ, List.filter_append, List.map_append]
  rw [List.filter_cons_of_neg (by simpa using h)]
  simp
theorem sgP_len {cs : List Int} : ∀ {k : Nat}, k ≤ cs.length → (sgP (cs.map Int.toNat) k).length = usedC (cs.take k)
  | 0, _ => rfl
  | k + 1, h => by
    have hk : k < cs.length := by omega
    have ih := sgP_len (cs := cs) (k := k) (by omega)
    have hg : (cs.map Int.toNat).getD k 0 = cs[k].toNat := by simp [List.getD, hk]
    have hu : usedC (cs.take (k + 1)) = usedC (cs.take k) + if 0 < cs[k] then 1 else 0 := by
      unfold usedC
      rw [List.take_succ_eq_append_getElem hk, List.countP_append]
      simp [List.countP_cons]
    rw [hu]
    by_cases c : 0 < cs[k]
    · rw [sgP_pos (by rw [hg]; omega), List.length_append, ih, if_pos c]; rfl
    · rw [sgP_not (by rw [hg]; omega), ih, if_neg c]; rfl
theorem sgP_each {c : List Nat} {k : Nat} (hc : ∀ x ∈ c, x ≤ 4294967296) : ∀ p ∈ sgP c k, p.1 ≤ 4294967296 ∧ p.2.length = 1 := by
  intro p hp
  obtain ⟨s, hs, rfl⟩ := List.mem_map.1 hp
  refine ⟨?_, rfl⟩
  simp only [List.mem_filter, decide_eq_true_eq] at hs
  simp only
  by_cases q : s < c.length
  · rw [List.getD_eq_getElem?_getD, List.getElem?_eq_getElem q]; exact hc _ (List.getElem_mem _)
  · rw [List.getD_eq_getElem?_getD, List.getElem?_eq_none (by omega)] at hs
    simp at hs
theorem row_succ {n t : Nat} {f : Nat → Nat} (ht : t < n) : ((List.range n).map f).set t (f t + 1) = (List.range n).map fun s => f s + if s = t then 1 else 0 := by
  refine List.ext_getElem (by simp) fun i h1 h2 => ?_
  simp only [List.length_map, List.length_range] at h2
  rw [List.getElem_set]
  simp only [List.getElem_map, List.getElem_range]
  by_cases e : t = i
  · subst e; simp
  · rw [if_neg e, if_neg (by omega)]; rfl
end Go.Proofs.YtbmppmdklappiaaDoor.Aw
namespace Go.Proofs.YtbmppmdklappiaaDoor.Aw
open Go
set_option linter.unusedSimpArgs false
set_option linter.unusedVariables false
def lenG (cs : List Int) (most : Int) : AV := if badE cs most ≠ 0 then .tup [.sc (.slice none 0 0), int (badE cs most : Int)] else .tup [.sl false none ((lensB (cs.map Int.toNat) most.toNat).map nA), int 0]
theorem free_lenG {cs : List Int} {most : Int} : (lenG cs most).free = true := by
  unfold lenG
  split
  · rfl
  · simp only [AV.free, AV.free.freeL, free_nA, int, Bool.and_self]
theorem bC_snoc {l : List Bt} {x s : Nat} : bC l ++ [.sc (.int .i64 (x : Int)), .sl false none [nA s]] = bC (l ++ [(x, [s])]) := by rw [← bC_append]; rfl
theorem cntB_le {s B : Nat} : ∀ {L : List Bt}, (∀ x ∈ L, x.2.length ≤ B) → cntB s L ≤ L.length * B
  | [], _ => by simp [cntB_nil]
  | x :: L, h => by
    have h1 := h x (by simp)
    have h2 : x.2.count s ≤ x.2.length := List.count_le_length
    have ih := cntB_le (s := s) (L := L) fun y hy => h y (by simp [hy])
    rw [cntB_cons, List.length_cons, Nat.succ_mul]
    omega
theorem lv_sym {S : List Bt} {P : Nat → Prop} (h : ∀ x ∈ S, ∀ t ∈ x.2, P t) : ∀ (k : Nat), ∀ x ∈ lvB S k, ∀ t ∈ x.2, P t
  | 0 => h
  | k + 1 => fun x hx t ht => by
    rw [lvB, mem_sortB, List.mem_append] at hx
    rcases hx with hx | hx
    · exact h x hx t ht
    · obtain ⟨a, ha, b, hb, rfl⟩ := mem_prs hx
      rcases List.mem_append.1 ht with ht | ht
      · exact lv_sym h k a ha t ht
      · exact lv_sym h k b hb t ht
theorem best_facts {c : List Nat} {q : Nat} (hc : c.length ≤ 320) (hc32 : ∀ x ∈ c, x ≤ 4294967296) (hq : q ≤ 15) : (bestB c q).length ≤ 640 ∧ ∀ x ∈ bestB c q, x.2.length ≤ 16384 ∧ ∀ t ∈ x.2, t < c.length := by
  have hS : ∀ x ∈ sgB c, ∀ t ∈ x.2, t < c.length := fun x hx t ht => by
    obtain ⟨s, hs, rfl⟩ := List.mem_map.1 hx
    simp only [List.mem_singleton] at ht
    subst ht
    exact (mem_us.1 hs).1
  have h1 := sgP_each (c := c) (k := c.length) hc32
  rw [sgP_all] at h1
  have hl : (sgB c).length ≤ c.length := by
    rw [sgB, List.length_map]
    exact Nat.le_trans (List.length_filter_le _ _) (by simp)
  unfold bestB
  split
  · exact ⟨by omega, fun x hx => ⟨by have := (h1 x hx).2; omega, hS x hx⟩⟩
  · have hm := lv_max (S := sortB (sgB c)) (q - 1)
    rw [length_sortB] at hm
    refine ⟨by rw [List.length_take]; omega, fun x hx => ?_⟩
    have hx := List.mem_of_mem_take hx
    have hb := lv_big (S := sortB (sgB c)) (fun p hp => h1 p (mem_sortB.1 hp)) (q - 1) x hx
    have hp2 : 2 ^ (q - 1) ≤ 16384 := Nat.pow_le_pow_right (n := 2) (by omega) (show q - 1 ≤ 14 by omega)
    exact ⟨by omega, lv_sym (S := sortB (sgB c)) (P := fun t => t < c.length) (fun y hy => hS y (mem_sortB.1 hy)) _ x hx⟩
set_option maxHeartbeats 1000000 in
set_option maxRecDepth 100000 in
theorem huff_Lengths_c [Tabs Tryd.prog] (nl : Bool) (cs : List Int) (most : Int) : Con Tryd.prog n_huff_Lengths [.sl nl none (cs.map int), int most] (lenG cs most) := by
  refine Con.of' mix Tryd.func105 rfl Tryd.ntmps105 e_huff_Lengths r_huff_Lengths (by simp) (by simp only [AV.free, AV.free.freeL, free_zA, int, Bool.and_self]) free_lenG ?_
  unfold s_huff_Lengths
  by_cases c1 : most < 1
  · have d1 := decide_eq_true c1
    have hb : badE cs most = 1 := by rw [badE, if_pos (.inl c1)]
    rw [lenG, hb, if_pos (by simp)]
    repeat (first | refine wA ?_ | refine wB ?_ | refine wC rfl ?_ | refine wD rfl ?_ | refine wE ?_ | refine wF (by omega) ?_ | ((first | refine wG ?_ | refine wH ?_ | refine wI ?_ | refine wJ ?_ | refine wK ?_ | refine wL ?_); simp (disch := omega) only [wP, wZ, undef, seval, if_pos, if_neg, aStore, frz, AV.flat, ↓reduceIte, ne_eq, reduceCtorEq, ByteArray.size, d1]))
  have d1 := decide_eq_false c1
  by_cases c2 : 15 < most
  · have d2 := decide_eq_true c2
    have hb : badE cs most = 1 := by rw [badE, if_pos (.inr c2)]
    rw [lenG, hb, if_pos (by simp)]
    repeat (first | refine wA ?_ | refine wB ?_ | refine wC rfl ?_ | refine wD rfl ?_ | refine wE ?_ | refine wF (by omega) ?_ | ((first | refine wG ?_ | refine wH ?_ | refine wI ?_ | refine wJ ?_ | refine wK ?_ | refine wL ?_); simp (disch := omega) only [wP, wZ, undef, seval, if_pos, if_neg, aStore, frz, AV.flat, ↓reduceIte, ne_eq, reduceCtorEq, ByteArray.size, d1, d2]))
  have d2 := decide_eq_false c2
  by_cases c3 : 320 < cs.length
  · have d3 : decide ((320 : Int) < (cs.length : Int)) = true := decide_eq_true (by omega)
    have hb : badE cs most = 4 := by rw [badE, if_neg (by omega), if_pos c3]
    rw [lenG, hb, if_pos (by simp)]
    repeat (first | refine wA ?_ | refine wB ?_ | refine wC rfl ?_ | refine wD rfl ?_ | refine wE ?_ | refine wF (by omega) ?_ | ((first | refine wG ?_ | refine wH ?_ | refine wI ?_ | refine wJ ?_ | refine wK ?_ | refine wL ?_); simp (disch := omega) only [wP, wZ, undef, seval, if_pos, if_neg, aStore, frz, AV.flat, ↓reduceIte, ne_eq, reduceCtorEq, ByteArray.size, d1, d2, d3, List.length_map]))
  have d3 : decide ((320 : Int) < (cs.length : Int)) = false := decide_eq_false (by omega)
  obtain ⟨q, rfl⟩ : ∃ q : Nat, most = (q : Int) := ⟨most.toNat, by omega⟩
  have hbE : badE cs (q : Int) = if cs.any bdC = true then 1 else if 2 ^ q < usedC cs then 4 else 0 := by rw [badE, if_neg (by omega), if_neg c3, Int.toNat_natCast]
  obtain ⟨G, hG⟩ : ∃ G, G = lenG cs (q : Int) := ⟨_, rfl⟩
  have hG1 : cs.any bdC = true → G = .tup [.sc (.slice none 0 0), int 1] := fun h => by rw [hG, lenG, hbE, if_pos h, if_pos (by simp)]; rfl
  rw [← hG]
  obtain ⟨c, hc⟩ : ∃ c, c = cs.map Int.toNat := ⟨_, rfl⟩
  obtain ⟨M, hM⟩ : ∃ M, M = cs.length := ⟨_, rfl⟩
  rw [← hM] at d3 c3
  iterate 14 (first | refine wA ?_ | refine wB ?_ | refine wC rfl ?_ | refine wD rfl ?_ | refine wE ?_ | refine wF (by omega) ?_ | ((first | refine wG ?_ | refine wH ?_ | refine wI ?_ | refine wJ ?_ | refine wK ?_ | refine wL ?_); simp (disch := omega) only [wP, wZ, undef, seval, if_pos, if_neg, aStore, frz, AV.flat, ↓reduceIte, ne_eq, reduceCtorEq, ByteArray.size, d1, d2, d3, List.length_map, ← hM]))
  refine SWp.adopt 6 (some 2) (by simp (disch := omega) only [wP, wZ, undef, seval, if_pos, if_neg, aStore, frz, AV.flat, ↓reduceIte, ne_eq, reduceCtorEq, ByteArray.size]) ?_
  repeat (first | refine wA ?_ | refine wB ?_ | refine wC rfl ?_ | refine wD rfl ?_ | refine wE ?_ | refine wF (by omega) ?_ | ((first | refine wG ?_ | refine wH ?_ | refine wI ?_ | refine wJ ?_ | refine wK ?_ | refine wL ?_); simp (disch := omega) only [wP, wZ, undef, seval, if_pos, if_neg, aStore, frz, AV.flat, ↓reduceIte, ne_eq, reduceCtorEq, ByteArray.size, List.length_map, ← hM]))
  refine SWp.loop (α := Nat × Nat × Nat) (fun x => mk 78 x.2.2 [(0, .sl nl none (cs.map int)), (1, int (q : Int)), (6, .own 6 x.2.1 (some 2) 0 (usedC (cs.take x.1))), (23, .sl nl none (cs.map int)), (24, int (M : Int)), (25, int (x.1 : Int))] [(6, x.2.1, .row (nl0 (usedC (cs.take x.1))) (bC (sgP c x.1)))])
    (fun x => x.1 ≤ M ∧ (cs.take x.1).any bdC = false ∧ x.2.2 ≤ 1 + x.1) (fun x => M - x.1) (0, 0, 1) ⟨Nat.zero_le _, by simp, by simp⟩ (le_mk rfl ?_ ?_ ?_) ?_
  · exact Nat.le_refl _
  · simp (disch := omega) only [wP, wZ, undef, seval, if_pos, if_neg, aStore, frz, AV.flat, ↓reduceIte, ne_eq, reduceCtorEq, ByteArray.size, show usedC (cs.take 0) = 0 from rfl, show usedC [] = 0 from rfl]
    try rfl
  · simp (disch := omega) only [wP, wZ, undef, seval, if_pos, if_neg, aStore, frz, AV.flat, ↓reduceIte, ne_eq, reduceCtorEq, ByteArray.size, show usedC (cs.take 0) = 0 from rfl, show usedC [] = 0 from rfl, nl0_zero]
    try rfl
  rintro ⟨k, g, gc⟩ ⟨hk, hany, hgc⟩ -
  simp only at hk hany hgc
  obtain ⟨u, hu⟩ : ∃ u, u = usedC (cs.take k) := ⟨_, rfl⟩
  have hul : u ≤ k := by rw [hu]; exact Nat.le_trans usedC_le (by rw [List.length_take]; omega)
  have hsl : (sgP c k).length = u := by rw [hc, hu]; exact sgP_len (by omega)
  have hbl : (bC (sgP c k)).length = u * 2 := by rw [length_bC, hsl]
  simp only [← hu]
  by_cases ck : k < M
  · have dk : decide ((k : Int) < (M : Int)) = true := decide_eq_true (by omega)
    have ck' : k < cs.length := by omega
    obtain ⟨x, hx⟩ : ∃ x, x = cs[k] := ⟨_, rfl⟩
    have hg : (cs.map int).getD k .junk = .sc (.int .i64 x) := by rw [hx]; simp [List.getD, ck', int]
    have hcg : c.getD k 0 = x.toNat := by rw [hc, hx]; simp [List.getD, ck']
    have hus := usedC_snoc ck'
    rw [← hu, ← hx] at hus
    have htk : (cs.take (k + 1)).any bdC = bdC x := by rw [List.take_succ_eq_append_getElem ck', List.any_append, hany, ← hx]; simp
    have hmem : bdC x = true → cs.any bdC = true := fun h => by
      rw [List.any_eq_true]
      exact ⟨x, by rw [hx]; exact List.getElem_mem _, h⟩
    by_cases c4 : x < 0
    · have d4 := decide_eq_true c4
      rw [hG1 (hmem (by unfold bdC; rw [d4]; rfl))]
      repeat (first | refine wA ?_ | refine wB ?_ | refine wC rfl ?_ | refine wD rfl ?_ | refine wE ?_ | refine wF (by omega) ?_ | ((first | refine wG ?_ | refine wH ?_ | refine wI ?_ | refine wJ ?_ | refine wK ?_ | refine wL ?_); simp (disch := omega) only [wP, wZ, undef, seval, if_pos, if_neg, aStore, frz, AV.flat, ↓reduceIte, ne_eq, reduceCtorEq, ByteArray.size, dk, List.length_map, ← hM, hg, d4]))
    have d4 := decide_eq_false c4
    by_cases c5 : 4294967296 < x
    · have d5 := decide_eq_true c5
      rw [hG1 (hmem (by unfold bdC; rw [d5, Bool.or_true]))]
      repeat (first | refine wA ?_ | refine wB ?_ | refine wC rfl ?_ | refine wD rfl ?_ | refine wE ?_ | refine wF (by omega) ?_ | ((first | refine wG ?_ | refine wH ?_ | refine wI ?_ | refine wJ ?_ | refine wK ?_ | refine wL ?_); simp (disch := omega) only [wP, wZ, undef, seval, if_pos, if_neg, aStore, frz, AV.flat, ↓reduceIte, ne_eq, reduceCtorEq, ByteArray.size, dk, List.length_map, ← hM, hg, d4, d5]))
    have d5 := decide_eq_false c5
    have hb : bdC x = false := by unfold bdC; rw [d4, d5]; rfl
    by_cases c6 : 0 < x
    · have d6 := decide_eq_true c6
      rw [if_pos c6] at hus
      have hsg := sgP_pos (c := c) (k := k) (by rw [hcg]; omega)
      obtain ⟨z, rfl⟩ : ∃ z : Nat, x = (z : Int) := ⟨x.toNat, by omega⟩
      rw [hcg, Int.toNat_natCast] at hsg
      have hcells : bC (sgP c k) ++ [.sc (.int .i64 (z : Int)), .sl false none [.sc (.int .i64 (k : Int))]] = bC (sgP c (k + 1)) := by rw [hsg]; exact bC_snoc
      have hfl : List.flatMap (fun x => (cellsA x).getD []) [AV.agg [AV.sc (Value.int IntKind.i64 (z : Int)), AV.sl false none [AV.sc (.int .i64 (k : Int))]]] = [.sc (.int .i64 (z : Int)), .sl false none [.sc (.int .i64 (k : Int))]] := rfl
      repeat (first | refine wA ?_ | refine wB ?_ | refine wC rfl ?_ | refine wD rfl ?_ | refine wE ?_ | refine wF (by omega) ?_ | ((first | refine wG ?_ | refine wH ?_ | refine wI ?_ | refine wJ ?_ | refine wK ?_ | refine wL ?_); simp (disch := omega) only [wP, wZ, undef, seval, if_pos, if_neg, aStore, frz, AV.flat, ↓reduceIte, ne_eq, reduceCtorEq, ByteArray.size, dk, List.length_map, ← hM, hg, d4, d5, d6]))
      refine ⟨⟨_, rfl, rfl⟩, ⟨fun w hw => ⟨_, List.mem_singleton.1 hw⟩, hbl.symm, by omega, by omega⟩, ?_⟩
      repeat (first | refine wA ?_ | refine wB ?_ | refine wC rfl ?_ | refine wD rfl ?_ | refine wE ?_ | refine wF (by omega) ?_ | ((first | refine wG ?_ | refine wH ?_ | refine wI ?_ | refine wJ ?_ | refine wK ?_ | refine wL ?_); simp (disch := omega) only [wP, wZ, undef, seval, if_pos, if_neg, aStore, frz, AV.flat, ↓reduceIte, ne_eq, reduceCtorEq, ByteArray.size, hfl, hcells]))
      refine At.of (k + 1, gc, gc + 1) ⟨by simp only; omega, by simp only; rw [htk, hb], by simp only; omega⟩ (by simp only; omega) rfl rfl (Nat.le_refl _) ?_ ?_
      · simp (disch := omega) only [wP, wZ, undef, seval, if_pos, if_neg, aStore, frz, AV.flat, ↓reduceIte, ne_eq, reduceCtorEq, ByteArray.size, hus]
        try omega
      · simp (disch := omega) only [wP, wZ, undef, seval, if_pos, if_neg, aStore, frz, AV.flat, ↓reduceIte, ne_eq, reduceCtorEq, ByteArray.size, hus, nl0_succ]
    · have d6 := decide_eq_false c6
      rw [if_neg c6, Nat.add_zero] at hus
      have hsg := sgP_not (c := c) (k := k) (by rw [hcg]; omega)
      repeat (first | refine wA ?_ | refine wB ?_ | refine wC rfl ?_ | refine wD rfl ?_ | refine wE ?_ | refine wF (by omega) ?_ | ((first | refine wG ?_ | refine wH ?_ | refine wI ?_ | refine wJ ?_ | refine wK ?_ | refine wL ?_); simp (disch := omega) only [wP, wZ, undef, seval, if_pos, if_neg, aStore, frz, AV.flat, ↓reduceIte, ne_eq, reduceCtorEq, ByteArray.size, dk, List.length_map, ← hM, hg, d4, d5, d6]))
      refine At.of (k + 1, g, gc) ⟨by simp only; omega, by simp only; rw [htk, hb], by simp only; omega⟩ (by simp only; omega) rfl rfl (Nat.le_refl _) ?_ ?_
      iterate 2 (case _ => simp (disch := omega) only [wP, wZ, undef, seval, if_pos, if_neg, aStore, frz, AV.flat, ↓reduceIte, ne_eq, reduceCtorEq, ByteArray.size, hus, hsg])
  · have dk : decide ((k : Int) < (M : Int)) = false := decide_eq_false (by omega)
    obtain rfl : k = M := by omega
    rw [hM, List.take_length] at hany hu
    have hq : 2 ^ q ≤ 32768 := Nat.pow_le_pow_right (n := 2) (by omega) (show q ≤ 15 by omega)
    by_cases c7 : 2 ^ q < u
    · have d7 : decide (((1 * 2 ^ q : Nat) : Int) < (u : Int)) = true := decide_eq_true (Int.ofNat_lt.2 (by omega))
      have hGe : G = .tup [.sc (.slice none 0 0), int 4] := by
        have hb : badE cs (q : Int) = 4 := by rw [hbE, if_neg (by rw [hany]; simp), if_pos (by rw [← hu]; exact c7)]
        rw [hG, lenG, hb, if_pos (by simp)]; rfl
      rw [hGe]
      repeat (first | refine wA ?_ | refine wB ?_ | refine wC rfl ?_ | refine wD rfl ?_ | refine wE ?_ | refine wF (by omega) ?_ | ((first | refine wG ?_ | refine wH ?_ | refine wI ?_ | refine wJ ?_ | refine wK ?_ | refine wL ?_); simp (disch := omega) only [wP, wZ, undef, seval, if_pos, if_neg, aStore, frz, AV.flat, ↓reduceIte, ne_eq, reduceCtorEq, ByteArray.size, dk, List.length_map, ← hM, d7]))
    · have d7 : decide (((1 * 2 ^ q : Nat) : Int) < (u : Int)) = false := decide_eq_false (fun h => c7 (by have := Int.ofNat_lt.1 h; omega))
      have hGe : G = .tup [.sl false none ((lensB c q).map nA), int 0] := by
        have hb : badE cs (q : Int) = 0 := by rw [hbE, if_neg (by rw [hany]; simp), if_neg (by rw [← hu]; exact c7)]
        rw [hG, lenG, hb, if_neg (by simp), Int.toNat_natCast, ← hc]
      rw [hGe]
      have hcl : c.length = k := by rw [hc, List.length_map, hM]
      have hc32 : ∀ x ∈ c, x ≤ 4294967296 := fun x hx => by
        rw [hc] at hx
        obtain ⟨y, hy, rfl⟩ := List.mem_map.1 hx
        rw [List.any_eq_false] at hany
        have := hany y hy
        simp only [bdC, Bool.or_eq_true, decide_eq_true_eq] at this
        omega
      have hch := huff_cheapest_h (sgP c k) u q hsl.symm (by omega) (by omega) (by omega) (by omega) (sgP_each hc32)
      have hbs : bestL (sgP c k) q = bestB c q := by rw [← hcl]; rfl
      rw [hbs] at hch
      repeat (first | refine wA ?_ | refine wB ?_ | refine wC rfl ?_ | refine wD rfl ?_ | refine wE ?_ | refine wF (by omega) ?_ | ((first | refine wG ?_ | refine wH ?_ | refine wI ?_ | refine wJ ?_ | refine wK ?_ | refine wL ?_); simp (disch := omega) only [wP, wZ, undef, seval, if_pos, if_neg, aStore, frz, AV.flat, ↓reduceIte, ne_eq, reduceCtorEq, ByteArray.size, dk, List.length_map, ← hM, d7]))
      refine goC_h [(6, g)] 1000 hch (by simp) (by simp) ?_ ?_ ?_
      iterate 2 (case _ => simp (disch := omega) only [wP, wZ, undef, seval, if_pos, if_neg, aStore, frz, AV.flat, ↓reduceIte, ne_eq, reduceCtorEq, ByteArray.size, renL_bC])
      obtain ⟨hBn, hBe⟩ := best_facts (c := c) (q := q) (by omega) hc32 (by omega)
      rw [hcl] at hBe
      have hlens : lensB c q = (List.range k).map fun s => cntB s (bestB c q) := by rw [lensB, hcl]
      rw [hlens]
      clear hch hbs hlens
      obtain ⟨Bs, hBs⟩ : ∃ Bs, Bs = bestB c q := ⟨_, rfl⟩
      rw [← hBs] at hBn hBe
      rw [← hBs]
      repeat (first | refine wA ?_ | refine wB ?_ | refine wC rfl ?_ | refine wD rfl ?_ | refine wE ?_ | refine wF (by omega) ?_ | ((first | refine wG ?_ | refine wH ?_ | refine wI ?_ | refine wJ ?_ | refine wK ?_ | refine wL ?_); simp (disch := omega) only [wP, wZ, undef, seval, if_pos, if_neg, aStore, frz, AV.flat, ↓reduceIte, ne_eq, reduceCtorEq, ByteArray.size, renL_bA, List.length_map]))
      refine SWp.loop (α := Nat × List Nat) (fun x => mk 78 (gc + 1 + KC + x.1) [(9, .own 53 gc none 0 k), (56, .sl (nl0 u) (some 2) (Bs.map bA)), (57, int (Bs.length : Int)), (58, int (x.1 : Int))] [(53, gc, .row false (x.2.map nA))])
        (fun x => x.1 ≤ Bs.length ∧ x.2 = (List.range k).map fun s => cntB s (Bs.take x.1)) (fun x => Bs.length - x.1) (0, List.replicate k 0) ⟨Nat.zero_le _, ?_⟩ (le_mk rfl ?_ ?_ ?_) ?_
      · simp only [List.take_zero, cntB_nil]
        refine List.ext_getElem (by simp) fun i h1 h2 => by simp
      · simp only; omega
      · simp (disch := omega) only [wP, wZ, undef, seval, if_pos, if_neg, aStore, frz, AV.flat, ↓reduceIte, ne_eq, reduceCtorEq, ByteArray.size]
      · simp (disch := omega) only [wP, wZ, undef, seval, if_pos, if_neg, aStore, frz, AV.flat, ↓reduceIte, ne_eq, reduceCtorEq, ByteArray.size]
        simp
        exact .inr rfl
      rintro ⟨j, l⟩ ⟨hj, hlf⟩ -
      simp only at hj hlf
      have hll : l.length = k := by rw [hlf]; simp
      by_cases cj : j < Bs.length
      · have dj : decide ((j : Int) < (Bs.length : Int)) = true := decide_eq_true (by omega)
        obtain ⟨p, hp⟩ : ∃ p, p = Bs.getD j (0, []) := ⟨_, rfl⟩
        have hpg : p = Bs[j] := by rw [hp]; simp [List.getD, cj]
        have hpm : p ∈ Bs := by rw [hpg]; exact List.getElem_mem _
        obtain ⟨hp1, hp2⟩ := hBe p hpm
        have eb : (Bs.map bA).getD j .junk = .agg [.sc (.int .i64 (p.1 : Int)), .sl false none (p.2.map nA)] := by rw [hp]; exact getD_bA cj
        have htj : Bs.take (j + 1) = Bs.take j ++ [p] := by rw [List.take_succ_eq_append_getElem cj, hpg]
        have hcb : ∀ s, cntB s (Bs.take j) ≤ 640 * 16384 := fun s => Nat.le_trans (cntB_le (B := 16384) fun x hx => (hBe x (List.mem_of_mem_take hx)).1) (Nat.mul_le_mul_right _ (by rw [List.length_take]; omega))
        repeat (first | refine wA ?_ | refine wB ?_ | refine wC rfl ?_ | refine wD rfl ?_ | refine wE ?_ | refine wF (by omega) ?_ | ((first | refine wG ?_ | refine wH ?_ | refine wI ?_ | refine wJ ?_ | refine wK ?_ | refine wL ?_); simp (disch := omega) only [wP, wZ, undef, seval, if_pos, if_neg, aStore, frz, AV.flat, ↓reduceIte, ne_eq, reduceCtorEq, ByteArray.size, dj, eb, List.length_map]))
        refine SWp.loop (α := Nat × List Nat) (fun x => mk 78 (gc + 1 + KC + j + 1) [(9, .own 53 gc none 0 k), (56, .sl (nl0 u) (some 2) (Bs.map bA)), (57, int (Bs.length : Int)), (58, int (j : Int)), (63, .sl false none (p.2.map nA)), (64, int (p.2.length : Int)), (65, int (x.1 : Int))] [(53, gc, .row false (x.2.map nA))])
          (fun x => x.1 ≤ p.2.length ∧ x.2 = (List.range k).map fun s => cntB s (Bs.take j) + (p.2.take x.1).count s) (fun x => p.2.length - x.1) (0, l) ⟨Nat.zero_le _, by simp [hlf]⟩ (le_mk rfl ?_ ?_ ?_) ?_
        · exact Nat.le_refl _
        iterate 2 (case _ => simp (disch := omega) only [wP, wZ, undef, seval, if_pos, if_neg, aStore, frz, AV.flat, ↓reduceIte, ne_eq, reduceCtorEq, ByteArray.size])
        rintro ⟨i, m⟩ ⟨hi, hmf⟩ -
        simp only at hi hmf
        have hml : m.length = k := by rw [hmf]; simp
        by_cases ci : i < p.2.length
        · have di : decide ((i : Int) < (p.2.length : Int)) = true := decide_eq_true (by omega)
          obtain ⟨t, ht⟩ : ∃ t, t = p.2.getD i 0 := ⟨_, rfl⟩
          have htg : t = p.2[i] := by rw [ht]; simp [List.getD, ci]
          have htk : t < k := hp2 t (by rw [htg]; exact List.getElem_mem _)
          have e1 : (p.2.map nA).getD i .junk = .sc (.int .i64 (t : Int)) := by rw [ht]; exact getD_nA ci
          obtain ⟨v, hv⟩ : ∃ v, v = m.getD t 0 := ⟨_, rfl⟩
          have e2 : (m.map nA).getD t .junk = .sc (.int .i64 (v : Int)) := by rw [hv]; exact getD_nA (by omega)
          have hvf : v = cntB t (Bs.take j) + (p.2.take i).count t := by rw [hv, hmf]; simp [List.getD, htk]
          have hvb : v ≤ 20000000 := by
            have a := hcb t
            have b : (p.2.take i).count t ≤ (p.2.take i).length := List.count_le_length
            rw [List.length_take] at b
            omega
          obtain ⟨v1, hv1⟩ : ∃ v1, v1 = v + 1 := ⟨_, rfl⟩
          have ev : (v : Int) + 1 = (v1 : Int) := by omega
          have hsp := splice_nA (l := m) (k := t) (x := v1) (by omega)
          have hnx : m.set t v1 = (List.range k).map fun s => cntB s (Bs.take j) + (p.2.take (i + 1)).count s := by
            rw [hmf, hv1, hvf, row_succ (f := fun s => cntB s (Bs.take j) + (p.2.take i).count s) htk]
            refine List.map_congr_left fun s _ => ?_
            rw [List.take_succ_eq_append_getElem ci, List.count_append, ← htg, List.count_singleton]
            simp only [beq_iff_eq]
            by_cases e : s = t
            · subst e; simp; omega
            · rw [if_neg e, if_neg (by omega)]; omega
          repeat (first | refine wA ?_ | refine wB ?_ | refine wC rfl ?_ | refine wD rfl ?_ | refine wE ?_ | refine wF (by omega) ?_ | ((first | refine wG ?_ | refine wH ?_ | refine wI ?_ | refine wJ ?_ | refine wK ?_ | refine wL ?_); simp (disch := omega) only [wP, wZ, undef, seval, if_pos, if_neg, aStore, frz, AV.flat, ↓reduceIte, ne_eq, reduceCtorEq, ByteArray.size, di, e1, e2, ev, hml, List.length_map, hsp]))
          refine At.of (i + 1, m.set t v1) ⟨by simp only; omega, hnx⟩ (by simp only; omega) rfl rfl (Nat.le_refl _) ?_ ?_
          · simp (disch := omega) only [wP, wZ, undef, seval, if_pos, if_neg, aStore, frz, AV.flat, ↓reduceIte, ne_eq, reduceCtorEq, ByteArray.size]
          · simp (disch := omega) only [wP, wZ, undef, seval, if_pos, if_neg, aStore, frz, AV.flat, ↓reduceIte, ne_eq, reduceCtorEq, ByteArray.size]
            rw [take_nA, drop_nA]
            exact hsp
        · have di : decide ((i : Int) < (p.2.length : Int)) = false := decide_eq_false (by omega)
          repeat (first | refine wA ?_ | refine wB ?_ | refine wC rfl ?_ | refine wD rfl ?_ | refine wE ?_ | refine wF (by omega) ?_ | ((first | refine wG ?_ | refine wH ?_ | refine wI ?_ | refine wJ ?_ | refine wK ?_ | refine wL ?_); simp (disch := omega) only [wP, wZ, undef, seval, if_pos, if_neg, aStore, frz, AV.flat, ↓reduceIte, ne_eq, reduceCtorEq, ByteArray.size, di]))
          refine At.of (j + 1, m) ⟨by simp only; omega, ?_⟩ (by simp only; omega) rfl rfl (Nat.le_refl _) ?_ ?_
          · simp only
            rw [hmf, show i = p.2.length by omega, List.take_length, htj]
            refine List.map_congr_left fun s _ => ?_
            rw [cntB_append, cntB_cons, cntB_nil, Nat.add_zero]
          iterate 2 (case _ => simp (disch := omega) only [wP, wZ, undef, seval, if_pos, if_neg, aStore, frz, AV.flat, ↓reduceIte, ne_eq, reduceCtorEq, ByteArray.size])
      · have dj : decide ((j : Int) < (Bs.length : Int)) = false := decide_eq_false (by omega)
        rw [show j = Bs.length by omega, List.take_length] at hlf
        rw [← hlf]
        repeat (first | refine wA ?_ | refine wB ?_ | refine wC rfl ?_ | refine wD rfl ?_ | refine wE ?_ | refine wF (by omega) ?_ | ((first | refine wG ?_ | refine wH ?_ | refine wI ?_ | refine wJ ?_ | refine wK ?_ | refine wL ?_); simp (disch := omega) only [wP, wZ, undef, seval, if_pos, if_neg, aStore, frz, AV.flat, ↓reduceIte, ne_eq, reduceCtorEq, ByteArray.size, dj, hll, iR]))
end Go.Proofs.YtbmppmdklappiaaDoor.Aw
namespace Go.Proofs.YtbmppmdklappiaaDoor.Aw
open Go
set_option linter.unusedSimpArgs false
set_option linter.unusedVariables false
theorem kraft_map {f : Nat → Nat} : ∀ (l : List Nat), kraft (l.map f) = (l.map fun s => wt (f s)).sum
  | [] => rfl
  | x :: l => by rw [List.map_cons, kraft, kraft_map l, List.map_cons, List.sum_cons]
theorem sum_filter {p : Nat → Bool} {F : Nat → Nat} (h : ∀ s, p s = false → F s = 0) : ∀ (l : List Nat), (l.map F).sum = ((l.filter p).map F).sum
  | [] => rfl
  | x :: l => by
    rw [List.map_cons, List.sum_cons, sum_filter h l, List.filter_cons]
    cases q : p x with
    | true => simp
    | false => rw [h x q]; simp
theorem sum_at {F : Nat → Nat} (l : List Nat) : (l.map F).sum = sumN l.length fun i => F (l.getD i 0) := by
  have e : l.map F = (List.range l.length).map fun i => F (l.getD i 0) := by
    refine List.ext_getElem (by simp) fun i h1 h2 => ?_
    have : i < l.length := by simpa using h1
    simp [List.getD, this]
  rw [sumN, ← e]
theorem wt_pow {n : Nat} (h : 1 ≤ n) (h2 : n ≤ 15) : wt n = 2 ^ (15 - n) := by
  rw [wt, if_neg (by omega), show 32768 = 2 ^ 15 from rfl, Nat.pow_div h2 (by omega)]
theorem len_at {cs : List Nat} {most s : Nat} (hs : s < cs.length) : (lensB cs most).getD s 0 = cntB s (bestB cs most) := by
  simp [lensB, List.getD, hs]
theorem length_lens {cs : List Nat} {most : Nat} : (lensB cs most).length = cs.length := by simp [lensB]
theorem lens_each {cs : List Nat} {most : Nat} (h1 : 1 ≤ most) (h2 : (sgB cs).length ≤ 2 ^ most) {s : Nat} (hs : s < cs.length) :
    (lensB cs most).getD s 0 ≤ most ∧ (0 < (lensB cs most).getD s 0 ↔ 0 < cs.getD s 0) := by
  rw [len_at hs]
  by_cases hn : 2 ≤ (sgB cs).length
  · obtain ⟨m, ms, hm, hL, hi, hz, -⟩ := lens_facts h1 hn h2
    by_cases c : s ∈ ysB cs
    · obtain ⟨i, hi2, rfl⟩ := List.mem_iff_getElem.1 c
      rw [hi i hi2]
      have a := lnM_le (ms := m :: ms) (i := i)
      have b := lnM_pos (m := m) (ms := ms) (i := i) (by rw [hm, ← length_ys]; exact hi2)
      have d := (mem_ys.1 c).2
      exact ⟨by omega, ⟨fun _ => d, fun _ => by omega⟩⟩
    · rw [hz s c]
      have d : ¬ 0 < cs.getD s 0 := fun q => c (mem_ys.2 ⟨hs, q⟩)
      exact ⟨by omega, ⟨fun q => by omega, fun q => absurd q d⟩⟩
  · have hb : bestB cs most = sgB cs := by rw [bestB, if_pos (by omega)]
    have hc : cntB s (sgB cs) = if s ∈ usB cs then 1 else 0 := by
      rw [sgB, cntB_ys]
      exact (List.nodup_range.sublist List.filter_sublist : (usB cs).Nodup).count
    rw [hb, hc]
    by_cases c : s ∈ usB cs
    · rw [if_pos c]; exact ⟨h1, ⟨fun _ => (mem_us.1 c).2, fun _ => by omega⟩⟩
    · rw [if_neg c]; exact ⟨by omega, ⟨fun q => by omega, fun q => absurd (mem_us.2 ⟨hs, q⟩) c⟩⟩
theorem lens_full {cs : List Nat} {most : Nat} (h1 : 1 ≤ most) (h15 : most ≤ 15) (hn : 2 ≤ (sgB cs).length) (h2 : (sgB cs).length ≤ 2 ^ most) : kraft (lensB cs most) = 32768 := by
  obtain ⟨m, ms, hm, hL, hi, hz, hK⟩ := lens_facts h1 hn h2
  rw [lensB, kraft_map, sum_filter (p := fun s => decide (0 < cs.getD s 0)) fun s hs => by
    have : s ∉ ysB cs := fun q => by
      have := (mem_ys.1 q).2
      simp only [decide_eq_false_iff_not] at hs
      exact hs this
    rw [hz s this]; rfl]
  rw [show (List.range cs.length).filter (fun s => decide (0 < cs.getD s 0)) = usB cs from rfl]
  rw [← (perm_ys.map fun s => wt (cntB s (bestB cs most))).sum_nat, sum_at]
  have hlen : (ysB cs).length = m := by rw [length_ys, hm]
  rw [hlen, sumN_congr (g := fun i => 2 ^ (15 - most) * 2 ^ (most - lnM (m :: ms) i)) fun i q => by
    have hq : i < (ysB cs).length := by omega
    rw [show (ysB cs).getD i 0 = (ysB cs)[i] by simp [List.getD, hq], hi i hq]
    have a := lnM_le (ms := m :: ms) (i := i)
    have b := lnM_pos (m := m) (ms := ms) (i := i) q
    rw [wt_pow b (by omega), ← Nat.pow_add]
    congr 1
    omega]
  rw [sumN_mul, hK, ← Nat.pow_add, show 15 - most + most = 15 by omega]
end Go.Proofs.YtbmppmdklappiaaDoor.Aw
namespace Go.Proofs.YtbmppmdklappiaaDoor.Aw
open Go
set_option linter.unusedSimpArgs false
set_option linter.unusedVariables false
def cdA (nl : Bool) (l : List Nat) : AV := .agg [.sl nl none (l.map nA), .sl false none ((codesL l).map nA)]
theorem free_cdA {nl : Bool} {l : List Nat} : (cdA nl l).free = true := by simp only [cdA, AV.free, AV.free.freeL, free_nA, Bool.and_self]
structure LnOk (l : List Nat) : Prop where
  small : ∀ x ∈ l, x ≤ 15
  len : l.length ≤ 320
  kr : kraft l ≤ 32768
set_option maxRecDepth 100000 in
theorem codeOf_c [Tabs Tryd.prog] (nl : Bool) (l : List Nat) (h : LnOk l) : Con Tryd.prog n_deflate_codeOf [.sl nl none (l.map nA)] (cdA nl l) := by
  refine Con.of' mix Tryd.func77 rfl Tryd.ntmps77 e_deflate_codeOf r_deflate_codeOf (by simp) (by simp only [AV.free, AV.free.freeL, free_nA, Bool.and_self]) free_cdA ?_
  unfold s_deflate_codeOf
  have hc := huff_Codes_c nl (l.map Int.ofNat) (by rw [chkN h.small h.len, if_neg (by have := h.kr; omega)]) l toNat_ofNat.symm
  rw [← nA_zA] at hc
  repeat (first | refine wA ?_ | refine wB ?_ | refine wC rfl ?_ | refine wD rfl ?_ | refine wE ?_ | refine wF (by omega) ?_ | ((first | refine wG ?_ | refine wH ?_ | refine wI ?_ | refine wJ ?_ | refine wK ?_ | refine wL ?_); simp (disch := omega) only [wP, wZ, undef, seval, if_pos, if_neg, aStore, frz, AV.flat, ↓reduceIte, ne_eq, reduceCtorEq, ByteArray.size]))
  refine goC_p _ (.inl ⟨by simp only [AV.free, AV.free.freeL, free_nA, Bool.and_self], hc⟩) ?_
  repeat (first | refine wA ?_ | refine wB ?_ | refine wC rfl ?_ | refine wD rfl ?_ | refine wE ?_ | refine wF (by omega) ?_ | ((first | refine wG ?_ | refine wH ?_ | refine wI ?_ | refine wJ ?_ | refine wK ?_ | refine wL ?_); simp (disch := omega) only [wP, wZ, undef, seval, if_pos, if_neg, aStore, frz, AV.flat, ↓reduceIte, ne_eq, reduceCtorEq, ByteArray.size, cdA]))
def fxL : List Nat := List.replicate 144 8 ++ (List.replicate 112 9 ++ (List.replicate 24 7 ++ List.replicate 8 8))
def fxD : List Nat := List.replicate 32 5
theorem fxL_ok : LnOk fxL := ⟨by decide +kernel, by decide +kernel, by decide +kernel⟩
theorem fxD_ok : LnOk fxD := ⟨by decide +kernel, by decide +kernel, by decide +kernel⟩
def cdsA (l d : List Nat) : AV := .agg [.sl false none (l.map nA), .sl false none ((codesL l).map nA), .sl false none (d.map nA), .sl false none ((codesL d).map nA)]
theorem free_cdsA {l d : List Nat} : (cdsA l d).free = true := by simp only [cdsA, AV.free, AV.free.freeL, free_nA, Bool.and_self]
set_option maxRecDepth 100000 in
theorem fixedCodes_c [Tabs Tryd.prog] : Con Tryd.prog n_deflate_fixedCodes [] (cdsA fxL fxD) := by
  refine Con.of' mix Tryd.func46 rfl Tryd.ntmps46 e_deflate_fixedCodes r_deflate_fixedCodes (by simp) rfl free_cdsA ?_
  unfold s_deflate_fixedCodes
  have p1 := slices_Repeat_c 8 144 (by omega) (by omega)
  have p2 := slices_Repeat_c 9 112 (by omega) (by omega)
  have p3 := slices_Repeat_c 7 24 (by omega) (by omega)
  have p4 := slices_Repeat_c 8 8 (by omega) (by omega)
  have p5 := slices_Repeat_c 5 32 (by omega) (by omega)
  have pc := slices_ConcatI4 (List.replicate 144 8) (List.replicate 112 9) (List.replicate 24 7) (List.replicate 8 8) (by simp) (by simp)
  have t1 := codeOf_c false fxL fxL_ok
  have t2 := codeOf_c false fxD fxD_ok
  have hL : List.replicate 144 8 ++ (List.replicate 112 9 ++ (List.replicate 24 7 ++ List.replicate 8 8)) = fxL := rfl
  have hD : List.replicate 32 5 = fxD := rfl
  rw [hL] at pc
  rw [hD] at p5
  obtain ⟨A, hA⟩ : ∃ A, A = List.replicate 144 8 := ⟨_, rfl⟩
  obtain ⟨B, hB⟩ : ∃ B, B = List.replicate 112 9 := ⟨_, rfl⟩
  obtain ⟨C, hC⟩ : ∃ C, C = List.replicate 24 7 := ⟨_, rfl⟩
  obtain ⟨D, hDd⟩ : ∃ D, D = List.replicate 8 8 := ⟨_, rfl⟩
  rw [← hA] at p1 pc
  rw [← hB] at p2 pc
  rw [← hC] at p3 pc
  rw [← hDd] at p4 pc
  obtain ⟨F, hF⟩ : ∃ F, F = fxL := ⟨_, rfl⟩
  obtain ⟨G, hG⟩ : ∃ G, G = fxD := ⟨_, rfl⟩
  rw [← hF] at pc t1 ⊢
  rw [← hG] at p5 t2 ⊢
  clear hL hD hF hG
  unfold cdA at t1 t2
  repeat (first | refine wA ?_ | refine wB ?_ | refine wC rfl ?_ | refine wD rfl ?_ | refine wE ?_ | refine wF (by omega) ?_ | ((first | refine wG ?_ | refine wH ?_ | refine wI ?_ | refine wJ ?_ | refine wK ?_ | refine wL ?_); simp (disch := omega) only [wP, wZ, undef, seval, if_pos, if_neg, aStore, frz, AV.flat, ↓reduceIte, ne_eq, reduceCtorEq, ByteArray.size, fR, iR]))
  refine goC_f 1 1 (nl := false) (cells := [.sc (.int .i64 8)]) [.sl false none [.sc (.int .i64 ((8 : Nat) : Int))], int ((144 : Nat) : Int)] _ (by simp (disch := omega) only [wP, wZ, undef, seval, if_pos, if_neg, aStore, frz, AV.flat, ↓reduceIte, ne_eq, reduceCtorEq, ByteArray.size]) (by simp (disch := omega) only [wP, wZ, undef, seval, if_pos, if_neg, aStore, frz, AV.flat, ↓reduceIte, ne_eq, reduceCtorEq, ByteArray.size, free_nA]) ?_ (by simp (disch := omega) only [wP, wZ, undef, seval, if_pos, if_neg, aStore, frz, AV.flat, ↓reduceIte, ne_eq, reduceCtorEq, ByteArray.size, free_nA]) p1 ?_
  · simp (disch := omega) only [wP, wZ, undef, seval, if_pos, if_neg, aStore, frz, AV.flat, ↓reduceIte, ne_eq, reduceCtorEq, ByteArray.size, fR, iR]
  repeat (first | refine wA ?_ | refine wB ?_ | refine wC rfl ?_ | refine wD rfl ?_ | refine wE ?_ | refine wF (by omega) ?_ | ((first | refine wG ?_ | refine wH ?_ | refine wI ?_ | refine wJ ?_ | refine wK ?_ | refine wL ?_); simp (disch := omega) only [wP, wZ, undef, seval, if_pos, if_neg, aStore, frz, AV.flat, ↓reduceIte, ne_eq, reduceCtorEq, ByteArray.size, fR, iR]))
  refine goC_f 3 2 (nl := false) (cells := [.sc (.int .i64 9)]) [.sl false none [.sc (.int .i64 ((9 : Nat) : Int))], int ((112 : Nat) : Int)] _ (by simp (disch := omega) only [wP, wZ, undef, seval, if_pos, if_neg, aStore, frz, AV.flat, ↓reduceIte, ne_eq, reduceCtorEq, ByteArray.size]) (by simp (disch := omega) only [wP, wZ, undef, seval, if_pos, if_neg, aStore, frz, AV.flat, ↓reduceIte, ne_eq, reduceCtorEq, ByteArray.size, free_nA]) ?_ (by simp (disch := omega) only [wP, wZ, undef, seval, if_pos, if_neg, aStore, frz, AV.flat, ↓reduceIte, ne_eq, reduceCtorEq, ByteArray.size, free_nA]) p2 ?_
  · simp (disch := omega) only [wP, wZ, undef, seval, if_pos, if_neg, aStore, frz, AV.flat, ↓reduceIte, ne_eq, reduceCtorEq, ByteArray.size, fR, iR]
  repeat (first | refine wA ?_ | refine wB ?_ | refine wC rfl ?_ | refine wD rfl ?_ | refine wE ?_ | refine wF (by omega) ?_ | ((first | refine wG ?_ | refine wH ?_ | refine wI ?_ | refine wJ ?_ | refine wK ?_ | refine wL ?_); simp (disch := omega) only [wP, wZ, undef, seval, if_pos, if_neg, aStore, frz, AV.flat, ↓reduceIte, ne_eq, reduceCtorEq, ByteArray.size, fR, iR]))
  refine goC_f 5 3 (nl := false) (cells := [.sc (.int .i64 7)]) [.sl false none [.sc (.int .i64 ((7 : Nat) : Int))], int ((24 : Nat) : Int)] _ (by simp (disch := omega) only [wP, wZ, undef, seval, if_pos, if_neg, aStore, frz, AV.flat, ↓reduceIte, ne_eq, reduceCtorEq, ByteArray.size]) (by simp (disch := omega) only [wP, wZ, undef, seval, if_pos, if_neg, aStore, frz, AV.flat, ↓reduceIte, ne_eq, reduceCtorEq, ByteArray.size, free_nA]) ?_ (by simp (disch := omega) only [wP, wZ, undef, seval, if_pos, if_neg, aStore, frz, AV.flat, ↓reduceIte, ne_eq, reduceCtorEq, ByteArray.size, free_nA]) p3 ?_
  · simp (disch := omega) only [wP, wZ, undef, seval, if_pos, if_neg, aStore, frz, AV.flat, ↓reduceIte, ne_eq, reduceCtorEq, ByteArray.size, fR, iR]
  repeat (first | refine wA ?_ | refine wB ?_ | refine wC rfl ?_ | refine wD rfl ?_ | refine wE ?_ | refine wF (by omega) ?_ | ((first | refine wG ?_ | refine wH ?_ | refine wI ?_ | refine wJ ?_ | refine wK ?_ | refine wL ?_); simp (disch := omega) only [wP, wZ, undef, seval, if_pos, if_neg, aStore, frz, AV.flat, ↓reduceIte, ne_eq, reduceCtorEq, ByteArray.size, fR, iR]))
  refine goC_f 7 4 (nl := false) (cells := [.sc (.int .i64 8)]) [.sl false none [.sc (.int .i64 ((8 : Nat) : Int))], int ((8 : Nat) : Int)] _ (by simp (disch := omega) only [wP, wZ, undef, seval, if_pos, if_neg, aStore, frz, AV.flat, ↓reduceIte, ne_eq, reduceCtorEq, ByteArray.size]) (by simp (disch := omega) only [wP, wZ, undef, seval, if_pos, if_neg, aStore, frz, AV.flat, ↓reduceIte, ne_eq, reduceCtorEq, ByteArray.size, free_nA]) ?_ (by simp (disch := omega) only [wP, wZ, undef, seval, if_pos, if_neg, aStore, frz, AV.flat, ↓reduceIte, ne_eq, reduceCtorEq, ByteArray.size, free_nA]) p4 ?_
  · simp (disch := omega) only [wP, wZ, undef, seval, if_pos, if_neg, aStore, frz, AV.flat, ↓reduceIte, ne_eq, reduceCtorEq, ByteArray.size, fR, iR]
  repeat (first | refine wA ?_ | refine wB ?_ | refine wC rfl ?_ | refine wD rfl ?_ | refine wE ?_ | refine wF (by omega) ?_ | ((first | refine wG ?_ | refine wH ?_ | refine wI ?_ | refine wJ ?_ | refine wK ?_ | refine wL ?_); simp (disch := omega) only [wP, wZ, undef, seval, if_pos, if_neg, aStore, frz, AV.flat, ↓reduceIte, ne_eq, reduceCtorEq, ByteArray.size, fR, iR]))
  refine goC_p _ (.inl ⟨by simp only [AV.free, AV.free.freeL, free_nA, Bool.and_self], pc⟩) ?_
  repeat (first | refine wA ?_ | refine wB ?_ | refine wC rfl ?_ | refine wD rfl ?_ | refine wE ?_ | refine wF (by omega) ?_ | ((first | refine wG ?_ | refine wH ?_ | refine wI ?_ | refine wJ ?_ | refine wK ?_ | refine wL ?_); simp (disch := omega) only [wP, wZ, undef, seval, if_pos, if_neg, aStore, frz, AV.flat, ↓reduceIte, ne_eq, reduceCtorEq, ByteArray.size, fR, iR]))
  refine goC_p _ (.inl ⟨by simp only [AV.free, AV.free.freeL, free_nA, Bool.and_self], t1⟩) ?_
  repeat (first | refine wA ?_ | refine wB ?_ | refine wC rfl ?_ | refine wD rfl ?_ | refine wE ?_ | refine wF (by omega) ?_ | ((first | refine wG ?_ | refine wH ?_ | refine wI ?_ | refine wJ ?_ | refine wK ?_ | refine wL ?_); simp (disch := omega) only [wP, wZ, undef, seval, if_pos, if_neg, aStore, frz, AV.flat, ↓reduceIte, ne_eq, reduceCtorEq, ByteArray.size, fR, iR]))
  refine goC_f 12 5 (nl := false) (cells := [.sc (.int .i64 5)]) [.sl false none [.sc (.int .i64 ((5 : Nat) : Int))], int ((32 : Nat) : Int)] _ (by simp (disch := omega) only [wP, wZ, undef, seval, if_pos, if_neg, aStore, frz, AV.flat, ↓reduceIte, ne_eq, reduceCtorEq, ByteArray.size]) (by simp (disch := omega) only [wP, wZ, undef, seval, if_pos, if_neg, aStore, frz, AV.flat, ↓reduceIte, ne_eq, reduceCtorEq, ByteArray.size, free_nA]) ?_ (by simp (disch := omega) only [wP, wZ, undef, seval, if_pos, if_neg, aStore, frz, AV.flat, ↓reduceIte, ne_eq, reduceCtorEq, ByteArray.size, free_nA]) p5 ?_
  · simp (disch := omega) only [wP, wZ, undef, seval, if_pos, if_neg, aStore, frz, AV.flat, ↓reduceIte, ne_eq, reduceCtorEq, ByteArray.size, fR, iR]
  repeat (first | refine wA ?_ | refine wB ?_ | refine wC rfl ?_ | refine wD rfl ?_ | refine wE ?_ | refine wF (by omega) ?_ | ((first | refine wG ?_ | refine wH ?_ | refine wI ?_ | refine wJ ?_ | refine wK ?_ | refine wL ?_); simp (disch := omega) only [wP, wZ, undef, seval, if_pos, if_neg, aStore, frz, AV.flat, ↓reduceIte, ne_eq, reduceCtorEq, ByteArray.size, fR, iR]))
  refine goC_p _ (.inl ⟨by simp only [AV.free, AV.free.freeL, free_nA, Bool.and_self], t2⟩) ?_
  repeat (first | refine wA ?_ | refine wB ?_ | refine wC rfl ?_ | refine wD rfl ?_ | refine wE ?_ | refine wF (by omega) ?_ | ((first | refine wG ?_ | refine wH ?_ | refine wI ?_ | refine wJ ?_ | refine wK ?_ | refine wL ?_); simp (disch := omega) only [wP, wZ, undef, seval, if_pos, if_neg, aStore, frz, AV.flat, ↓reduceIte, ne_eq, reduceCtorEq, ByteArray.size, fR, iR, cdsA]))
structure CtOk (c : List Nat) (q : Nat) : Prop where
  len : c.length ≤ 300
  small : ∀ x ∈ c, x ≤ 100000
  pos : 1 ≤ q
  most : q ≤ 15
  room : c.length ≤ 2 ^ q
theorem sg_le {c : List Nat} : (sgB c).length ≤ c.length := by
  rw [sgB, List.length_map]
  exact Nat.le_trans (List.length_filter_le _ _) (by simp)
theorem badE_zero {c : List Nat} {q : Nat} (h : CtOk c q) : badE (c.map Int.ofNat) (q : Int) = 0 := by
  have h1 := h.len
  have h2 := h.pos
  have h3 := h.most
  have h4 := h.room
  have h6 := usedC_le (cs := c.map Int.ofNat)
  rw [List.length_map] at h6
  have hb : (c.map Int.ofNat).any bdC = false := by
    rw [List.any_eq_false]
    intro x hx
    obtain ⟨y, hy, rfl⟩ := List.mem_map.1 hx
    have := h.small y hy
    unfold bdC
    simp only [Int.ofNat_eq_natCast, Bool.or_eq_true, decide_eq_true_eq, not_or]
    omega
  unfold badE
  rw [if_neg (by omega), List.length_map, if_neg (by omega), hb, if_neg (by simp), Int.toNat_natCast, if_neg (by omega)]
theorem sum_le {F : Nat → Nat} (h : ∀ s, F s ≤ 32768) : ∀ (l : List Nat), (l.map F).sum ≤ 32768 * l.length
  | [] => Nat.le_refl _
  | x :: l => by
    have := sum_le h l
    have := h x
    rw [List.map_cons, List.sum_cons, List.length_cons]; omega
theorem lens_LnOk {c : List Nat} {q : Nat} (h : CtOk c q) : LnOk (lensB c q) := by
  have h2 := h.pos
  have h3 := h.most
  have h5 := sg_le (c := c)
  have hr : (sgB c).length ≤ 2 ^ q := Nat.le_trans h5 h.room
  refine ⟨fun x hx => ?_, by rw [length_lens]; have := h.len; omega, ?_⟩
  · obtain ⟨i, hi, rfl⟩ := List.getElem_of_mem hx
    rw [length_lens] at hi
    have := (lens_each h2 hr hi).1
    have e : (lensB c q).getD i 0 = (lensB c q)[i]'(by rw [length_lens]; exact hi) := by simp [List.getD, length_lens, hi]
    rw [e] at this
    omega
  · by_cases hn : 2 ≤ (sgB c).length
    · rw [lens_full h2 h3 hn hr]; exact Nat.le_refl _
    · rw [lensB, kraft_map, sum_filter (p := fun s => decide (0 < c.getD s 0)) fun s hs => by
        rw [bestB, if_pos (by omega), sgB, cntB_ys, List.count_eq_zero_of_not_mem (fun q => by simp only [decide_eq_false_iff_not] at hs; exact hs (mem_us.1 q).2)]
        rfl]
      rw [show (List.range c.length).filter (fun s => decide (0 < c.getD s 0)) = usB c from rfl]
      have := sum_le (F := fun s => wt (cntB s (bestB c q))) (fun s => wt_le) (usB c)
      have hl : (usB c).length = (sgB c).length := by rw [sgB, List.length_map]
      omega
set_option maxRecDepth 100000 in
theorem bestCode_c [Tabs Tryd.prog] (nl : Bool) (c : List Nat) (q : Nat) (h : CtOk c q) : Con Tryd.prog n_deflate_bestCode [.sl nl none (c.map nA), int (q : Int)] (cdA false (lensB c q)) := by
  refine Con.of' mix Tryd.func81 rfl Tryd.ntmps81 e_deflate_bestCode r_deflate_bestCode (by simp) (by simp only [AV.free, AV.free.freeL, free_nA, int, Bool.and_self]) free_cdA ?_
  unfold s_deflate_bestCode
  have hl := huff_Lengths_c nl (c.map Int.ofNat) (q : Int)
  rw [lenG, badE_zero h, if_neg (by simp), toNat_ofNat, ← nA_zA, Int.toNat_natCast] at hl
  have hc := codeOf_c false (lensB c q) (lens_LnOk h)
  obtain ⟨l, hl2⟩ : ∃ l, l = lensB c q := ⟨_, rfl⟩
  rw [← hl2] at hl hc ⊢
  unfold cdA at hc
  repeat (first | refine wA ?_ | refine wB ?_ | refine wC rfl ?_ | refine wD rfl ?_ | refine wE ?_ | refine wF (by omega) ?_ | ((first | refine wG ?_ | refine wH ?_ | refine wI ?_ | refine wJ ?_ | refine wK ?_ | refine wL ?_); simp (disch := omega) only [wP, wZ, undef, seval, if_pos, if_neg, aStore, frz, AV.flat, ↓reduceIte, ne_eq, reduceCtorEq, ByteArray.size]))
  refine goC_p _ (.inl ⟨by simp only [AV.free, AV.free.freeL, free_nA, int, Bool.and_self], hl⟩) ?_
  repeat (first | refine wA ?_ | refine wB ?_ | refine wC rfl ?_ | refine wD rfl ?_ | refine wE ?_ | refine wF (by omega) ?_ | ((first | refine wG ?_ | refine wH ?_ | refine wI ?_ | refine wJ ?_ | refine wK ?_ | refine wL ?_); simp (disch := omega) only [wP, wZ, undef, seval, if_pos, if_neg, aStore, frz, AV.flat, ↓reduceIte, ne_eq, reduceCtorEq, ByteArray.size]))
  refine goC_p _ (.inl ⟨by simp only [AV.free, AV.free.freeL, free_nA, int, Bool.and_self], hc⟩) ?_
  repeat (first | refine wA ?_ | refine wB ?_ | refine wC rfl ?_ | refine wD rfl ?_ | refine wE ?_ | refine wF (by omega) ?_ | ((first | refine wG ?_ | refine wH ?_ | refine wI ?_ | refine wJ ?_ | refine wK ?_ | refine wL ?_); simp (disch := omega) only [wP, wZ, undef, seval, if_pos, if_neg, aStore, frz, AV.flat, ↓reduceIte, ne_eq, reduceCtorEq, ByteArray.size, cdA]))
end Go.Proofs.YtbmppmdklappiaaDoor.Aw
namespace Go.Proofs.YtbmppmdklappiaaDoor.Aw
open Go
set_option linter.unusedSimpArgs false
set_option linter.unusedVariables false
abbrev K3 := UInt8 × UInt8 × UInt8
def kA (k : K3) : AV := .agg [u8 k.1, u8 k.2.1, u8 k.2.2]
def enA (e : K3 × Nat) : AV := .tup [kA e.1, nA e.2]
theorem u8_inj {a b : UInt8} (h : u8 a = u8 b) : a = b := by
  simp only [u8, AV.sc.injEq, Value.int.injEq, true_and] at h
  exact UInt8.toNat_inj.1 (by omega)
theorem kA_inj {a b : K3} : kA a = kA b ↔ a = b := by
  constructor
  · intro h
    obtain ⟨a1, a2, a3⟩ := a
    obtain ⟨b1, b2, b3⟩ := b
    simp only [kA, AV.agg.injEq, List.cons.injEq, and_true] at h
    rw [u8_inj h.1, u8_inj h.2.1, u8_inj h.2.2]
  · rintro rfl; rfl
def mfd (k : K3) : List (K3 × Nat) → Option Nat
  | [] => none
  | e :: m => if k = e.1 then some e.2 else mfd k m
def mpt (k : K3) (p : Nat) : List (K3 × Nat) → List (K3 × Nat)
  | [] => [(k, p)]
  | e :: m => if k = e.1 then (e.1, p) :: m else e :: mpt k p m
theorem mfind_en {k : K3} : ∀ {m : List (K3 × Nat)}, mfind (kA k) (m.map enA) = (mfd k m).map nA
  | [] => rfl
  | e :: m => by
    rw [List.map_cons, enA, mfind, mfd]
    by_cases c : k = e.1
    · rw [if_pos (kA_inj.2 c), if_pos c]; rfl
    · rw [if_neg (fun h => c (kA_inj.1 h)), if_neg c]; exact mfind_en
theorem mput_en {k : K3} {p : Nat} : ∀ {m : List (K3 × Nat)}, mput (kA k) (nA p) (m.map enA) = (mpt k p m).map enA
  | [] => rfl
  | e :: m => by
    rw [List.map_cons, enA, mput, mpt]
    by_cases c : k = e.1
    · rw [if_pos (kA_inj.2 c), if_pos c]; rfl
    · rw [if_neg (fun h => c (kA_inj.1 h)), if_neg c, List.map_cons, mput_en]; rfl
abbrev z3 : Value := .agg #[.int .u8 0, .int .u8 0, .int .u8 0]
theorem like_u8 {z : Int} {c : UInt8} : likeA1 (.int .u8 z) (u8 c) := ⟨rfl, Int.natCast_nonneg _, by have := c.toNat_lt; show (c.toNat : Int) ≤ 255; omega⟩
theorem like_k {k : K3} : likeA z3 (kA k) := ⟨like_u8, like_u8, like_u8, trivial⟩
theorem ents_en : ∀ {m : List (K3 × Nat)}, entsOk z3 (m.map enA)
  | [] => trivial
  | e :: m => ⟨like_k, ents_en⟩
theorem ents_enT {m : List (K3 × Nat)} : entsOk z3 (m.map enA) = True := eq_true ents_en
theorem like_kT {k : K3} : likeA z3 (.agg [u8 k.1, u8 k.2.1, u8 k.2.2]) = True := eq_true like_k
def fdR (nl : Bool) (b : List UInt8) (t n : Nat) : List AV := [.sl nl none (b.map u8), .mp 1001 0, .own 1002 0 none 0 n, .sc (.int .i64 (t : Int))]
abbrev fdI (nl : Bool) (b : List UInt8) (t : Nat) (m : List (K3 × Nat)) (A : List Int) : List AO := [.row false (fdR nl b t A.length), .row false [.tup (m.map enA)], .row false (A.map int)]
abbrev fdO (nl : Bool) (b : List UInt8) (t : Nat) (m : List (K3 × Nat)) (A : List Int) : List (Nat × Nat × AO) := [(1000, 0, .row false (fdR nl b t A.length)), (1001, 0, .row false [.tup (m.map enA)]), (1002, 0, .row false (A.map int))]
theorem free_en : ∀ {m : List (K3 × Nat)}, AV.free.freeL (m.map enA) = true := fun {m} => freeL_iff.2 fun x hx => by
  obtain ⟨e, _, rfl⟩ := List.mem_map.1 hx; rfl
theorem renL_en {ρ : Nat → Nat → Nat × Nat} {m : List (K3 × Nat)} : ren.renL ρ (m.map enA) = m.map enA := renL_free ρ _ free_en
theorem fd_gl {nl : Bool} {b : List UInt8} {t : Nat} {m : List (K3 × Nat)} {A : List Int} : ∀ n cells, AO.row n cells ∈ fdI nl b t m A → AV.gl.glL 1 cells := by
  intro n cells h
  simp only [List.mem_cons, AO.row.injEq, List.not_mem_nil, or_false] at h
  obtain ⟨-, rfl⟩ | ⟨-, rfl⟩ | ⟨-, rfl⟩ := h
  · simp only [fdR, AV.gl.glL, AV.gl, and_true]
    exact ⟨glL_of_free _ _ free_u8, by omega, by omega⟩
  · simp only [AV.gl.glL, AV.gl, and_true]
    exact glL_of_free _ _ free_en
  · exact glL_of_free _ _ free_zA
def startM (b : List UInt8) (p : Int) : Option K3 := if p < 0 ∨ (b.length : Int) - p < 3 then none else some (b.getD p.toNat 0, b.getD (p.toNat + 1) 0, b.getD (p.toNat + 2) 0)
theorem cut3 {b : List UInt8} {p : Nat} (h : p + 3 ≤ b.length) : ((b.drop p).map u8).take 3 = [u8 (b.getD p 0), u8 (b.getD (p + 1) 0), u8 (b.getD (p + 2) 0)] := by
  rw [List.drop_eq_getElem_cons (by omega), List.drop_eq_getElem_cons (by omega), List.drop_eq_getElem_cons (by omega)]
  simp only [List.map_cons, List.take_succ_cons, List.take_zero, List.getD, List.getElem?_eq_getElem (show p < b.length by omega), List.getElem?_eq_getElem (show p + 1 < b.length by omega), List.getElem?_eq_getElem (show p + 2 < b.length by omega), Option.getD_some]
set_option maxRecDepth 100000 in
theorem fd_start_h [Tabs Tryd.prog] (nl : Bool) (b : List UInt8) (hb : b.length ≤ 20000) (t : Nat) (m : List (K3 × Nat)) (A : List Int) (p : Int) (h1 : -40000 ≤ p) (h2 : p ≤ 20000) :
    HCon Tryd.prog n_deflate_finder_start [.op 1000 0 0, .sc (.int .i64 p)] (fdI nl b t m A) (.tup [kA ((startM b p).getD (0, 0, 0)), boo (startM b p).isSome]) (fdO nl b t m A) 3 := by
  refine HCon.of' mix Tryd.func104 rfl Tryd.ntmps104 e_deflate_finder_start r_deflate_finder_start (by simp) (by simp [AV.gl, AV.gl.glL]) fd_gl ?_
  unfold s_deflate_finder_start
  have hr0 : (startM b p) = none → AV.tup [kA ((startM b p).getD (0, 0, 0)), boo (startM b p).isSome] = .tup [.agg [.sc (.int .u8 0), .sc (.int .u8 0), .sc (.int .u8 0)], boo false] := fun h => by rw [h]; rfl
  by_cases c1 : p < 0
  · have d1 := decide_eq_true c1
    rw [hr0 (if_pos (.inl c1))]
    repeat (first | refine wA ?_ | refine wB ?_ | refine wC rfl ?_ | refine wD rfl ?_ | refine wE ?_ | refine wF (by omega) ?_ | ((first | refine wG ?_ | refine wH ?_ | refine wI ?_ | refine wJ ?_ | refine wK ?_ | refine wL ?_); simp (disch := omega) only [wP, wZ, undef, seval, if_pos, if_neg, aStore, frz, AV.flat, ↓reduceIte, ne_eq, reduceCtorEq, ByteArray.size, d1, fdR, iR]))
  have d1 := decide_eq_false c1
  obtain ⟨q, rfl⟩ : ∃ q : Nat, p = (q : Int) := ⟨p.toNat, by omega⟩
  by_cases c2 : (b.length : Int) - (q : Int) < 3
  · have d2 := decide_eq_true c2
    rw [hr0 (if_pos (.inr c2))]
    repeat (first | refine wA ?_ | refine wB ?_ | refine wC rfl ?_ | refine wD rfl ?_ | refine wE ?_ | refine wF (by omega) ?_ | ((first | refine wG ?_ | refine wH ?_ | refine wI ?_ | refine wJ ?_ | refine wK ?_ | refine wL ?_); simp (disch := omega) only [wP, wZ, undef, seval, if_pos, if_neg, aStore, frz, AV.flat, ↓reduceIte, ne_eq, reduceCtorEq, ByteArray.size, d1, d2, fdR, iR, List.length_map]))
  have d2 := decide_eq_false c2
  have hs : startM b (q : Int) = some (b.getD q 0, b.getD (q + 1) 0, b.getD (q + 2) 0) := by rw [startM, if_neg (by omega)]; rfl
  have hc := cut3 (b := b) (p := q) (by omega)
  have hdl : (b.drop q).length = b.length - q := List.length_drop
  obtain ⟨x, hx⟩ : ∃ x, x = b.getD q 0 := ⟨_, rfl⟩
  obtain ⟨y, hy⟩ : ∃ x, x = b.getD (q + 1) 0 := ⟨_, rfl⟩
  obtain ⟨z, hz⟩ : ∃ x, x = b.getD (q + 2) 0 := ⟨_, rfl⟩
  obtain ⟨r, hr⟩ : ∃ r, r = b.drop q := ⟨_, rfl⟩
  rw [← hx, ← hy, ← hz, ← hr] at hc
  rw [← hx, ← hy, ← hz] at hs
  rw [← hr] at hdl
  have hrr : (b.map u8).drop q = r.map u8 := by rw [hr, List.map_drop]
  have hmin : min r.length 3 = 3 := by omega
  have ho : AV.tup [kA ((startM b (q : Int)).getD (0, 0, 0)), boo (startM b (q : Int)).isSome] = .tup [.agg [u8 x, u8 y, u8 z], boo true] := by rw [hs]; rfl
  rw [ho]
  repeat (first | refine wA ?_ | refine wB ?_ | refine wC rfl ?_ | refine wD rfl ?_ | refine wE ?_ | refine wF (by omega) ?_ | ((first | refine wG ?_ | refine wH ?_ | refine wI ?_ | refine wJ ?_ | refine wK ?_ | refine wL ?_); simp (disch := omega) only [wP, wZ, undef, seval, if_pos, if_neg, aStore, frz, AV.flat, ↓reduceIte, ne_eq, reduceCtorEq, ByteArray.size, d1, d2, fdR, iR, List.length_map, hrr, hc, hmin]))
def alikeM (b : List UInt8) (p q most : Nat) : Nat := ((List.range most).takeWhile fun i => b.getD (p + i) 0 == b.getD (q + i) 0).length
theorem alike_eq {b : List UInt8} {p q most n : Nat} (hn : n ≤ most) (h : ∀ i, i < n → b.getD (p + i) 0 = b.getD (q + i) 0) (hx : n = most ∨ b.getD (p + n) 0 ≠ b.getD (q + n) 0) : alikeM b p q most = n := by
  have e : List.range most = List.range n ++ (List.range (most - n)).map (n + ·) := by
    have := List.range_add (n := n) (m := most - n)
    rwa [show n + (most - n) = most by omega] at this
  unfold alikeM
  rw [e, List.takeWhile_append_of_pos (by
    intro i hi
    simp only [beq_iff_eq]
    exact h i (List.mem_range.1 hi)), List.length_append, List.length_range]
  have : (((List.range (most - n)).map (n + ·)).takeWhile fun i => b.getD (p + i) 0 == b.getD (q + i) 0) = [] := by
    rcases hx with hx | hx
    · rw [hx, Nat.sub_self]; rfl
    · by_cases c : most - n = 0
      · rw [c]; rfl
      · rw [show most - n = (most - n - 1) + 1 by omega, List.range_succ_eq_map, List.map_cons, List.takeWhile_cons, if_neg]
        simpa using hx
  rw [this]
  rfl
theorem alike_le {b : List UInt8} {p q most : Nat} : alikeM b p q most ≤ most := by
  have := (List.takeWhile_sublist (l := List.range most) fun i => b.getD (p + i) 0 == b.getD (q + i) 0).length_le
  rwa [List.length_range] at this
theorem alike_get {b : List UInt8} {p q most i : Nat} (h : i < alikeM b p q most) : b.getD (p + i) 0 = b.getD (q + i) 0 := by
  have h2 := List.all_takeWhile (l := List.range most) (p := fun i => b.getD (p + i) 0 == b.getD (q + i) 0)
  have hp := List.takeWhile_prefix (l := List.range most) fun i => b.getD (p + i) 0 == b.getD (q + i) 0
  rw [List.all_eq_true] at h2
  have hm := List.getElem_mem (l := (List.range most).takeWhile fun i => b.getD (p + i) 0 == b.getD (q + i) 0) h
  have he := hp.getElem h
  rw [List.getElem_range] at he
  rw [he] at hm
  simpa using h2 i hm
set_option maxRecDepth 100000 in
theorem fd_alike_h [Tabs Tryd.prog] (nl : Bool) (b : List UInt8) (hb : b.length ≤ 20000) (t : Nat) (m : List (K3 × Nat)) (A : List Int) (p q most : Nat) (hp : p + most ≤ b.length) (hq : q + most ≤ b.length) :
    HCon Tryd.prog n_deflate_finder_alike [.op 1000 0 0, .sc (.int .i64 (p : Int)), .sc (.int .i64 (q : Int)), .sc (.int .i64 (most : Int))] (fdI nl b t m A) (int (alikeM b p q most : Int)) (fdO nl b t m A) 1 := by
  refine HCon.of' mix Tryd.func103 rfl Tryd.ntmps103 e_deflate_finder_alike r_deflate_finder_alike (by simp) (by simp [AV.gl, AV.gl.glL]) fd_gl ?_
  unfold s_deflate_finder_alike
  repeat (first | refine wA ?_ | refine wB ?_ | refine wC rfl ?_ | refine wD rfl ?_ | refine wE ?_ | refine wF (by omega) ?_ | ((first | refine wG ?_ | refine wH ?_ | refine wI ?_ | refine wJ ?_ | refine wK ?_ | refine wL ?_); simp (disch := omega) only [wP, wZ, undef, seval, if_pos, if_neg, aStore, frz, AV.flat, ↓reduceIte, ne_eq, reduceCtorEq, ByteArray.size]))
  refine SWp.loop (α := Nat) (fun n => mk 37 1 [(0, .op 1000 0 0), (1, .sc (.int .i64 (p : Int))), (2, .sc (.int .i64 (q : Int))), (3, .sc (.int .i64 (most : Int))), (9, int n)] (fdO nl b t m A))
    (fun n => n ≤ most ∧ ∀ i, i < n → b.getD (p + i) 0 = b.getD (q + i) 0) (fun n => most - n) 0 ⟨Nat.zero_le _, fun i h => by omega⟩ (le_mk rfl ?_ ?_ ?_) ?_
  · exact Nat.le_refl _
  iterate 2 (case _ => simp (disch := omega) only [wP, wZ, undef, seval, if_pos, if_neg, aStore, frz, AV.flat, ↓reduceIte, ne_eq, reduceCtorEq, ByteArray.size])
  rintro n ⟨hn, heq⟩ -
  by_cases c : n < most
  · have d : decide ((n : Int) < (most : Int)) = true := decide_eq_true (by omega)
    have e1 : (p : Int) + (n : Int) = ((p + n : Nat) : Int) := by omega
    have e2 : (q : Int) + (n : Int) = ((q + n : Nat) : Int) := by omega
    obtain ⟨pn, hpn⟩ : ∃ x, x = p + n := ⟨_, rfl⟩
    obtain ⟨qn, hqn⟩ : ∃ x, x = q + n := ⟨_, rfl⟩
    rw [← hpn] at e1
    rw [← hqn] at e2
    have g1 : (b.map u8).getD pn .junk = u8 (b.getD pn 0) := getD_u8 (by omega)
    have g2 : (b.map u8).getD qn .junk = u8 (b.getD qn 0) := getD_u8 (by omega)
    obtain ⟨x, hx⟩ : ∃ x, x = b.getD pn 0 := ⟨_, rfl⟩
    obtain ⟨y, hy⟩ : ∃ x, x = b.getD qn 0 := ⟨_, rfl⟩
    rw [← hx] at g1
    rw [← hy] at g2
    by_cases cx : x = y
    · have dx : decide ((x.toNat : Int) = (y.toNat : Int)) = true := decide_eq_true (by rw [cx])
      repeat (first | refine wA ?_ | refine wB ?_ | refine wC rfl ?_ | refine wD rfl ?_ | refine wE ?_ | refine wF (by omega) ?_ | ((first | refine wG ?_ | refine wH ?_ | refine wI ?_ | refine wJ ?_ | refine wK ?_ | refine wL ?_); simp (disch := omega) only [wP, wZ, undef, seval, if_pos, if_neg, aStore, frz, AV.flat, ↓reduceIte, ne_eq, reduceCtorEq, ByteArray.size, d, fdR, iR, e1, e2, List.length_map, g1, g2, dx]))
      refine At.of (n + 1) ⟨by omega, fun i hi => ?_⟩ (by omega) rfl rfl (Nat.le_refl _) ?_ ?_
      · by_cases ci : i = n
        · subst ci; rw [← hpn, ← hqn, ← hx, ← hy, cx]
        · exact heq i (by omega)
      iterate 2 (case _ => simp (disch := omega) only [wP, wZ, undef, seval, if_pos, if_neg, aStore, frz, AV.flat, ↓reduceIte, ne_eq, reduceCtorEq, ByteArray.size, fdR])
    · have dx : decide ((x.toNat : Int) = (y.toNat : Int)) = false := decide_eq_false (fun h => cx (UInt8.toNat_inj.1 (by omega)))
      rw [alike_eq hn heq (.inr (by rw [← hpn, ← hqn, ← hx, ← hy]; exact cx))]
      repeat (first | refine wA ?_ | refine wB ?_ | refine wC rfl ?_ | refine wD rfl ?_ | refine wE ?_ | refine wF (by omega) ?_ | ((first | refine wG ?_ | refine wH ?_ | refine wI ?_ | refine wJ ?_ | refine wK ?_ | refine wL ?_); simp (disch := omega) only [wP, wZ, undef, seval, if_pos, if_neg, aStore, frz, AV.flat, ↓reduceIte, ne_eq, reduceCtorEq, ByteArray.size, d, fdR, iR, e1, e2, List.length_map, g1, g2, dx]))
  · have d : decide ((n : Int) < (most : Int)) = false := decide_eq_false (by omega)
    rw [alike_eq hn heq (.inl (by omega))]
    repeat (first | refine wA ?_ | refine wB ?_ | refine wC rfl ?_ | refine wD rfl ?_ | refine wE ?_ | refine wF (by omega) ?_ | ((first | refine wG ?_ | refine wH ?_ | refine wI ?_ | refine wJ ?_ | refine wK ?_ | refine wL ?_); simp (disch := omega) only [wP, wZ, undef, seval, if_pos, if_neg, aStore, frz, AV.flat, ↓reduceIte, ne_eq, reduceCtorEq, ByteArray.size, d, fdR, iR]))
end Go.Proofs.YtbmppmdklappiaaDoor.Aw
