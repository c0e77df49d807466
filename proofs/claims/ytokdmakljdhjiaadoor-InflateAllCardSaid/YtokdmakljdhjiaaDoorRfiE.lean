/- Contracts: (*state).stored of drayageref04. -/
import Derived.Test.YtokdmakljdhjiaaDoorRfiD
namespace Go.Proofs.YtokdmakljdhjiaaDoor.Aw
open Go
set_option linter.unusedSimpArgs false
set_option linter.unusedVariables false

theorem numAt8 {b : List UInt8} {j : Nat} (hj : j < b.length) : numAt b (8 * j) 8 = (b.getD j 0).toNat := by
  have e : b.drop j = b.getD j 0 :: b.drop (j + 1) := by
    rw [List.drop_eq_getElem_cons hj]; simp [List.getD, List.getElem?_eq_getElem hj]
  have h1 : (bitsL b).drop (8 * j) = bitsB (b.getD j 0) ++ bitsL (b.drop (j + 1)) := by
    conv => lhs; rw [← List.take_append_drop j b, bitsL_append]
    rw [List.drop_append, length_bitsL, List.length_take, Nat.min_eq_left (by omega), Nat.sub_self, List.drop_zero, List.drop_of_length_le (by rw [length_bitsL, List.length_take]; omega), List.nil_append, e]
    simp [bitsL]
  rw [← numAt_eq (by omega), h1, List.take_append_of_le_length (by rw [length_bitsB]; exact Nat.le_refl _), List.take_of_length_le (by rw [length_bitsB]; exact Nat.le_refl _)]
  exact run_bytT.numB_bitsB (b := b) 0
theorem nuS_ok {b : List UInt8} {n i : Nat} (h : i + n ≤ 8 * b.length) : nuS (bitsL b) n i 0 = (numAt b i n, i + n, 0) := by
  rw [nuS, if_neg (by simp), length_bitsL, if_pos h, numAt_eq h]
theorem nuS_no {b : List UInt8} {n i : Nat} (h : ¬ i + n ≤ 8 * b.length) : nuS (bitsL b) n i 0 = (0, i, 2) := by
  rw [nuS, if_neg (by simp), length_bitsL, if_neg h]
theorem nuS_e {B : List Nat} {n i e : Nat} (h : e ≠ 0) : nuS B n i e = (0, i, e) := by rw [nuS, if_pos h]

set_option maxHeartbeats 2000000 in
set_option maxRecDepth 100000 in
theorem rf_stored_h [Tabs Tryd.prog] (nb : Bool) (b : List UInt8) (hb : b.length ≤ 10000) (most : Nat) (hm : most ≤ 16777216) (i : Nat) (hi : i ≤ 8 * b.length) (out : List UInt8) (ho : out.length ≤ most) (r : BR (List UInt8)) (hr : (stoT most out).run (bitsL b) i = r) :
    HCon Tryd.prog n_drayageref04_state_stored [.op 1000 0 0] (stI nb (bitsL b) most i 0 out) (.tup []) (houC 200000 nb (bitsL b) most r) 200001 := by
  refine HCon.of' mix Tryd.func14 rfl Tryd.ntmps14 e_drayageref04_state_stored r_drayageref04_state_stored (by simp) (by simp [AV.gl, AV.gl.glL]) st_gl ?_
  unfold s_drayageref04_state_stored
  rw [run_stoT hi] at hr
  obtain ⟨q, hq⟩ : ∃ q, q = (i + 7) / 8 := ⟨_, rfl⟩
  rw [← hq] at hr
  have hBl : (bitsL b).length = 8 * b.length := length_bitsL
  have hNum := fun i e hi out n hn => rf_number_h nb (bitsL b) (by rw [hBl]; omega) bitsL_lt most i e hi out n hn
  have ok := fun {n i : Nat} (h : i + n ≤ 8 * b.length) => nuS_ok (b := b) h
  have no := fun {n i : Nat} (h : ¬ i + n ≤ 8 * b.length) => nuS_no (b := b) h
  have ke := fun {n i e : Nat} (h : e ≠ 0) => nuS_e (B := bitsL b) (n := n) (i := i) h
  obtain ⟨B, hB⟩ : ∃ B, B = bitsL b := ⟨_, rfl⟩
  rw [← hB] at hBl
  simp only [← hB] at hNum ok no ke ⊢
  repeat (first | refine wA ?_ | refine wB ?_ | refine wC rfl ?_ | refine wD rfl ?_ | refine wE ?_ | refine wF (by omega) ?_ | ((first | refine wG ?_ | refine wH ?_ | refine wI ?_ | refine wJ ?_ | refine wK ?_ | refine wL ?_); simp (disch := omega) only [wP, wZ, undef, seval, if_pos, if_neg, aStore, frz, AV.flat, ↓reduceIte, ne_eq, reduceCtorEq, ByteArray.size]))
  refine SWp.loop (α := Nat) (fun j => mk 82 1 [(0, .op 1000 0 0)] [(1000, 0, .row false (stR nb B most 0 out.length j 0)), (1001, 0, .row (nl0 out.length) (out.map u8))])
    (fun j => i ≤ j ∧ j ≤ q * 8) (fun j => q * 8 - j) i ⟨Nat.le_refl _, by omega⟩ (le_mk rfl ?_ ?_ ?_) ?_
  · exact Nat.le_refl _
  iterate 2 (case _ => simp (disch := omega) only [wP, wZ, undef, seval, if_pos, if_neg, aStore, frz, AV.flat, ↓reduceIte, ne_eq, reduceCtorEq, ByteArray.size, stI])
  rintro j ⟨hj, hj2⟩ -
  by_cases c0 : j % 8 = 0
  · have d0 : decide (((j % 8 : Nat) : Int) = 0) = true := decide_eq_true (by omega)
    obtain rfl : j = q * 8 := by omega
    repeat (first | refine wA ?_ | refine wB ?_ | refine wC rfl ?_ | refine wD rfl ?_ | refine wE ?_ | refine wF (by omega) ?_ | ((first | refine wG ?_ | refine wH ?_ | refine wI ?_ | refine wJ ?_ | refine wK ?_ | refine wL ?_); simp (disch := omega) only [wP, wZ, undef, seval, if_pos, if_neg, aStore, frz, AV.flat, ↓reduceIte, ne_eq, reduceCtorEq, ByteArray.size, stR, iR, d0]))
    by_cases c1 : 8 * b.length < q * 8 + 16
    · rw [if_pos c1] at hr
      subst hr
      have de : decide ((2 : Int) = 0) = false := by decide
      have h1 := hNum (q * 8) 0 (by omega) out 16 (by omega)
      rw [no (by omega)] at h1
      have h2 := hNum (q * 8) 2 (by omega) out 16 (by omega)
      rw [ke (by omega)] at h2
      have h3 := rf_bad_h nb B most (q * 8) 2 out true 3
      rw [if_neg (by simp)] at h3
      refine goC_h [(1000, 0), (1001, 0)] 2000 h1 (by simp) (by simp) ?_ ?_ ?_
      iterate 2 (case _ => simp (disch := omega) only [wP, wZ, undef, seval, if_pos, if_neg, aStore, frz, AV.flat, ↓reduceIte, ne_eq, reduceCtorEq, ByteArray.size, stI, stR, iR])
      repeat (first | refine wA ?_ | refine wB ?_ | refine wC rfl ?_ | refine wD rfl ?_ | refine wE ?_ | refine wF (by omega) ?_ | ((first | refine wG ?_ | refine wH ?_ | refine wI ?_ | refine wJ ?_ | refine wK ?_ | refine wL ?_); simp (disch := omega) only [wP, wZ, undef, seval, if_pos, if_neg, aStore, frz, AV.flat, ↓reduceIte, ne_eq, reduceCtorEq, ByteArray.size, stO, stR, iR]))
      refine goC_h [(1000, 0), (1001, 0)] 3000 h2 (by simp) (by simp) ?_ ?_ ?_
      iterate 2 (case _ => simp (disch := omega) only [wP, wZ, undef, seval, if_pos, if_neg, aStore, frz, AV.flat, ↓reduceIte, ne_eq, reduceCtorEq, ByteArray.size, stI, stR, iR])
      repeat (first | refine wA ?_ | refine wB ?_ | refine wC rfl ?_ | refine wD rfl ?_ | refine wE ?_ | refine wF (by omega) ?_ | ((first | refine wG ?_ | refine wH ?_ | refine wI ?_ | refine wJ ?_ | refine wK ?_ | refine wL ?_); simp (disch := omega) only [wP, wZ, undef, seval, if_pos, if_neg, aStore, frz, AV.flat, ↓reduceIte, ne_eq, reduceCtorEq, ByteArray.size, stO, stR, iR]))
      refine goC_h [(1000, 0), (1001, 0)] 4000 h3 (by simp) (by simp) ?_ ?_ ?_
      iterate 2 (case _ => simp (disch := omega) only [wP, wZ, undef, seval, if_pos, if_neg, aStore, frz, AV.flat, ↓reduceIte, ne_eq, reduceCtorEq, ByteArray.size, stI, stR, iR])
      simp (disch := omega) only [wP, wZ, undef, seval, if_pos, if_neg, aStore, frz, AV.flat, ↓reduceIte, ne_eq, reduceCtorEq, ByteArray.size, stO, stR, iR]
      refine SWp.le (le_mk (N := 82) (gc := 100) (l := [(0, .op 1000 0 0)]) (h := [(1000, 0, .row false (stR nb B most 0 out.length (q * 8) 2))]) rfl ?_ ?_ ?_) ?_
      · simp only; omega
      iterate 2 (case _ => simp (disch := omega) only [wP, wZ, undef, seval, if_pos, if_neg, aStore, frz, AV.flat, ↓reduceIte, ne_eq, reduceCtorEq, ByteArray.size, stR, iR])
      refine SWp.blur 1000 0 (nl := false) (cells := (stR nb B most 0 out.length (q * 8) 2)) (jkR 2) (by simp (disch := omega) only [wP, wZ, undef, seval, if_pos, if_neg, aStore, frz, AV.flat, ↓reduceIte, ne_eq, reduceCtorEq, ByteArray.size]) (by simp only [stR, jkR, Blur]; simp) ?_
      refine SWp.le (le_mk (N := 82) (gc := 100) (l := [(0, .op 1000 0 0)]) (h := [(1000, 0, .row false (jkR 2))]) rfl ?_ ?_ ?_) ?_
      · exact Nat.le_refl _
      iterate 2 (case _ => simp (disch := omega) only [wP, wZ, undef, seval, if_pos, if_neg, aStore, frz, AV.flat, ↓reduceIte, ne_eq, reduceCtorEq, ByteArray.size])
      repeat (first | refine wA ?_ | refine wB ?_ | refine wC rfl ?_ | refine wD rfl ?_ | refine wE ?_ | refine wF (by omega) ?_ | ((first | refine wG ?_ | refine wH ?_ | refine wI ?_ | refine wJ ?_ | refine wK ?_ | refine wL ?_); simp (disch := omega) only [wP, wZ, undef, seval, if_pos, if_neg, aStore, frz, AV.flat, ↓reduceIte, ne_eq, reduceCtorEq, ByteArray.size, jkR, houC, iR, de]))
    · rw [if_neg c1] at hr
      have h1 := hNum (q * 8) 0 (by omega) out 16 (by omega)
      rw [ok (by omega)] at h1
      have hx1 := numAt_lt (b := b) (i := q * 8) (n := 16)
      obtain ⟨x, hx⟩ : ∃ x, x = numAt b (q * 8) 16 := ⟨_, rfl⟩
      rw [← hx] at h1 hr hx1
      by_cases c2 : 8 * b.length < q * 8 + 32
      · rw [if_pos c2] at hr
        subst hr
        have de : decide ((2 : Int) = 0) = false := by decide
        have h2 := hNum (q * 8 + 16) 0 (by omega) out 16 (by omega)
        rw [no (by omega)] at h2
        have h3 := rf_bad_h nb B most (q * 8 + 16) 2 out (!decide ((0 : Int) = 65535 - (x : Int))) 3
        rw [if_neg (by simp)] at h3
        refine goC_h [(1000, 0), (1001, 0)] 2000 h1 (by simp) (by simp) ?_ ?_ ?_
        iterate 2 (case _ => simp (disch := omega) only [wP, wZ, undef, seval, if_pos, if_neg, aStore, frz, AV.flat, ↓reduceIte, ne_eq, reduceCtorEq, ByteArray.size, stI, stR, iR])
        repeat (first | refine wA ?_ | refine wB ?_ | refine wC rfl ?_ | refine wD rfl ?_ | refine wE ?_ | refine wF (by omega) ?_ | ((first | refine wG ?_ | refine wH ?_ | refine wI ?_ | refine wJ ?_ | refine wK ?_ | refine wL ?_); simp (disch := omega) only [wP, wZ, undef, seval, if_pos, if_neg, aStore, frz, AV.flat, ↓reduceIte, ne_eq, reduceCtorEq, ByteArray.size, stO, stR, iR]))
        refine goC_h [(1000, 0), (1001, 0)] 3000 h2 (by simp) (by simp) ?_ ?_ ?_
        iterate 2 (case _ => simp (disch := omega) only [wP, wZ, undef, seval, if_pos, if_neg, aStore, frz, AV.flat, ↓reduceIte, ne_eq, reduceCtorEq, ByteArray.size, stI, stR, iR])
        repeat (first | refine wA ?_ | refine wB ?_ | refine wC rfl ?_ | refine wD rfl ?_ | refine wE ?_ | refine wF (by omega) ?_ | ((first | refine wG ?_ | refine wH ?_ | refine wI ?_ | refine wJ ?_ | refine wK ?_ | refine wL ?_); simp (disch := omega) only [wP, wZ, undef, seval, if_pos, if_neg, aStore, frz, AV.flat, ↓reduceIte, ne_eq, reduceCtorEq, ByteArray.size, stO, stR, iR]))
        refine goC_h [(1000, 0), (1001, 0)] 4000 h3 (by simp) (by simp) ?_ ?_ ?_
        iterate 2 (case _ => simp (disch := omega) only [wP, wZ, undef, seval, if_pos, if_neg, aStore, frz, AV.flat, ↓reduceIte, ne_eq, reduceCtorEq, ByteArray.size, stI, stR, iR])
        simp (disch := omega) only [wP, wZ, undef, seval, if_pos, if_neg, aStore, frz, AV.flat, ↓reduceIte, ne_eq, reduceCtorEq, ByteArray.size, stO, stR, iR]
        refine SWp.le (le_mk (N := 82) (gc := 100) (l := [(0, .op 1000 0 0)]) (h := [(1000, 0, .row false (stR nb B most 0 out.length (q * 8 + 16) 2))]) rfl ?_ ?_ ?_) ?_
        · simp only; omega
        iterate 2 (case _ => simp (disch := omega) only [wP, wZ, undef, seval, if_pos, if_neg, aStore, frz, AV.flat, ↓reduceIte, ne_eq, reduceCtorEq, ByteArray.size, stR, iR])
        refine SWp.blur 1000 0 (nl := false) (cells := (stR nb B most 0 out.length (q * 8 + 16) 2)) (jkR 2) (by simp (disch := omega) only [wP, wZ, undef, seval, if_pos, if_neg, aStore, frz, AV.flat, ↓reduceIte, ne_eq, reduceCtorEq, ByteArray.size]) (by simp only [stR, jkR, Blur]; simp) ?_
        refine SWp.le (le_mk (N := 82) (gc := 100) (l := [(0, .op 1000 0 0)]) (h := [(1000, 0, .row false (jkR 2))]) rfl ?_ ?_ ?_) ?_
        · exact Nat.le_refl _
        iterate 2 (case _ => simp (disch := omega) only [wP, wZ, undef, seval, if_pos, if_neg, aStore, frz, AV.flat, ↓reduceIte, ne_eq, reduceCtorEq, ByteArray.size])
        repeat (first | refine wA ?_ | refine wB ?_ | refine wC rfl ?_ | refine wD rfl ?_ | refine wE ?_ | refine wF (by omega) ?_ | ((first | refine wG ?_ | refine wH ?_ | refine wI ?_ | refine wJ ?_ | refine wK ?_ | refine wL ?_); simp (disch := omega) only [wP, wZ, undef, seval, if_pos, if_neg, aStore, frz, AV.flat, ↓reduceIte, ne_eq, reduceCtorEq, ByteArray.size, jkR, houC, iR, de]))
      · rw [if_neg c2] at hr
        have h2 := hNum (q * 8 + 16) 0 (by omega) out 16 (by omega)
        rw [ok (by omega)] at h2
        have hy1 := numAt_lt (b := b) (i := q * 8 + 16) (n := 16)
        obtain ⟨y, hy⟩ : ∃ y, y = numAt b (q * 8 + 16) 16 := ⟨_, rfl⟩
        rw [← hy] at h2 hr hy1
        by_cases c3 : x + y ≠ 65535
        · rw [if_pos c3] at hr
          subst hr
          have de : decide ((3 : Int) = 0) = false := by decide
          have d3 : decide ((y : Int) = 65535 - (x : Int)) = false := decide_eq_false (by omega)
          have h3 := rf_bad_h nb B most (q * 8 + 16 + 16) 0 out true 3
          rw [if_pos ⟨rfl, rfl⟩] at h3
          refine goC_h [(1000, 0), (1001, 0)] 2000 h1 (by simp) (by simp) ?_ ?_ ?_
          iterate 2 (case _ => simp (disch := omega) only [wP, wZ, undef, seval, if_pos, if_neg, aStore, frz, AV.flat, ↓reduceIte, ne_eq, reduceCtorEq, ByteArray.size, stI, stR, iR])
          repeat (first | refine wA ?_ | refine wB ?_ | refine wC rfl ?_ | refine wD rfl ?_ | refine wE ?_ | refine wF (by omega) ?_ | ((first | refine wG ?_ | refine wH ?_ | refine wI ?_ | refine wJ ?_ | refine wK ?_ | refine wL ?_); simp (disch := omega) only [wP, wZ, undef, seval, if_pos, if_neg, aStore, frz, AV.flat, ↓reduceIte, ne_eq, reduceCtorEq, ByteArray.size, stO, stR, iR]))
          refine goC_h [(1000, 0), (1001, 0)] 3000 h2 (by simp) (by simp) ?_ ?_ ?_
          iterate 2 (case _ => simp (disch := omega) only [wP, wZ, undef, seval, if_pos, if_neg, aStore, frz, AV.flat, ↓reduceIte, ne_eq, reduceCtorEq, ByteArray.size, stI, stR, iR])
          repeat (first | refine wA ?_ | refine wB ?_ | refine wC rfl ?_ | refine wD rfl ?_ | refine wE ?_ | refine wF (by omega) ?_ | ((first | refine wG ?_ | refine wH ?_ | refine wI ?_ | refine wJ ?_ | refine wK ?_ | refine wL ?_); simp (disch := omega) only [wP, wZ, undef, seval, if_pos, if_neg, aStore, frz, AV.flat, ↓reduceIte, ne_eq, reduceCtorEq, ByteArray.size, stO, stR, iR, d3]))
          refine goC_h [(1000, 0), (1001, 0)] 4000 h3 (by simp) (by simp) ?_ ?_ ?_
          iterate 2 (case _ => simp (disch := omega) only [wP, wZ, undef, seval, if_pos, if_neg, aStore, frz, AV.flat, ↓reduceIte, ne_eq, reduceCtorEq, ByteArray.size, stI, stR, iR])
          simp (disch := omega) only [wP, wZ, undef, seval, if_pos, if_neg, aStore, frz, AV.flat, ↓reduceIte, ne_eq, reduceCtorEq, ByteArray.size, stO, stR, iR]
          refine SWp.le (le_mk (N := 82) (gc := 100) (l := [(0, .op 1000 0 0)]) (h := [(1000, 0, .row false (stR nb B most 0 out.length (q * 8 + 16 + 16) 3))]) rfl ?_ ?_ ?_) ?_
          · simp only; omega
          iterate 2 (case _ => simp (disch := omega) only [wP, wZ, undef, seval, if_pos, if_neg, aStore, frz, AV.flat, ↓reduceIte, ne_eq, reduceCtorEq, ByteArray.size, stR, iR])
          refine SWp.blur 1000 0 (nl := false) (cells := (stR nb B most 0 out.length (q * 8 + 16 + 16) 3)) (jkR 3) (by simp (disch := omega) only [wP, wZ, undef, seval, if_pos, if_neg, aStore, frz, AV.flat, ↓reduceIte, ne_eq, reduceCtorEq, ByteArray.size]) (by simp only [stR, jkR, Blur]; simp) ?_
          refine SWp.le (le_mk (N := 82) (gc := 100) (l := [(0, .op 1000 0 0)]) (h := [(1000, 0, .row false (jkR 3))]) rfl ?_ ?_ ?_) ?_
          · exact Nat.le_refl _
          iterate 2 (case _ => simp (disch := omega) only [wP, wZ, undef, seval, if_pos, if_neg, aStore, frz, AV.flat, ↓reduceIte, ne_eq, reduceCtorEq, ByteArray.size])
          repeat (first | refine wA ?_ | refine wB ?_ | refine wC rfl ?_ | refine wD rfl ?_ | refine wE ?_ | refine wF (by omega) ?_ | ((first | refine wG ?_ | refine wH ?_ | refine wI ?_ | refine wJ ?_ | refine wK ?_ | refine wL ?_); simp (disch := omega) only [wP, wZ, undef, seval, if_pos, if_neg, aStore, frz, AV.flat, ↓reduceIte, ne_eq, reduceCtorEq, ByteArray.size, jkR, houC, iR, de]))
        · rw [if_neg c3] at hr
          have d3 : decide ((y : Int) = 65535 - (x : Int)) = true := decide_eq_true (by omega)
          have h3 := rf_bad_h nb B most (q * 8 + 16 + 16) 0 out false 3
          rw [if_neg (by simp)] at h3
          by_cases c4 : b.length < q + 4 + x
          · rw [if_pos c4] at hr
            subst hr
            have de : decide ((2 : Int) = 0) = false := by decide
            have d4 : decide ((B.length : Int) - (((q * 8 : Nat) : Int) + 16 + 16) < 8 * (x : Int)) = true := decide_eq_true (by omega)
            refine goC_h [(1000, 0), (1001, 0)] 2000 h1 (by simp) (by simp) ?_ ?_ ?_
            iterate 2 (case _ => simp (disch := omega) only [wP, wZ, undef, seval, if_pos, if_neg, aStore, frz, AV.flat, ↓reduceIte, ne_eq, reduceCtorEq, ByteArray.size, stI, stR, iR])
            repeat (first | refine wA ?_ | refine wB ?_ | refine wC rfl ?_ | refine wD rfl ?_ | refine wE ?_ | refine wF (by omega) ?_ | ((first | refine wG ?_ | refine wH ?_ | refine wI ?_ | refine wJ ?_ | refine wK ?_ | refine wL ?_); simp (disch := omega) only [wP, wZ, undef, seval, if_pos, if_neg, aStore, frz, AV.flat, ↓reduceIte, ne_eq, reduceCtorEq, ByteArray.size, stO, stR, iR]))
            refine goC_h [(1000, 0), (1001, 0)] 3000 h2 (by simp) (by simp) ?_ ?_ ?_
            iterate 2 (case _ => simp (disch := omega) only [wP, wZ, undef, seval, if_pos, if_neg, aStore, frz, AV.flat, ↓reduceIte, ne_eq, reduceCtorEq, ByteArray.size, stI, stR, iR])
            repeat (first | refine wA ?_ | refine wB ?_ | refine wC rfl ?_ | refine wD rfl ?_ | refine wE ?_ | refine wF (by omega) ?_ | ((first | refine wG ?_ | refine wH ?_ | refine wI ?_ | refine wJ ?_ | refine wK ?_ | refine wL ?_); simp (disch := omega) only [wP, wZ, undef, seval, if_pos, if_neg, aStore, frz, AV.flat, ↓reduceIte, ne_eq, reduceCtorEq, ByteArray.size, stO, stR, iR, d3]))
            refine goC_h [(1000, 0), (1001, 0)] 4000 h3 (by simp) (by simp) ?_ ?_ ?_
            iterate 2 (case _ => simp (disch := omega) only [wP, wZ, undef, seval, if_pos, if_neg, aStore, frz, AV.flat, ↓reduceIte, ne_eq, reduceCtorEq, ByteArray.size, stI, stR, iR])
            simp (disch := omega) only [wP, wZ, undef, seval, if_pos, if_neg, aStore, frz, AV.flat, ↓reduceIte, ne_eq, reduceCtorEq, ByteArray.size, stO, stR, iR]
            iterate 11 (first | refine wA ?_ | refine wB ?_ | refine wC rfl ?_ | refine wD rfl ?_ | refine wE ?_ | refine wF (by omega) ?_ | ((first | refine wG ?_ | refine wH ?_ | refine wI ?_ | refine wJ ?_ | refine wK ?_ | refine wL ?_); simp (disch := omega) only [wP, wZ, undef, seval, if_pos, if_neg, aStore, frz, AV.flat, ↓reduceIte, ne_eq, reduceCtorEq, ByteArray.size, stR, iR, d4]))

            refine SWp.le (le_mk (N := 82) (gc := 100) (l := [(0, .op 1000 0 0)]) (h := [(1000, 0, .row false (stR nb B most 0 out.length (q * 8 + 16 + 16) 2))]) rfl ?_ ?_ ?_) ?_
            · simp only; omega
            iterate 2 (case _ => simp (disch := omega) only [wP, wZ, undef, seval, if_pos, if_neg, aStore, frz, AV.flat, ↓reduceIte, ne_eq, reduceCtorEq, ByteArray.size, stR, iR])
            refine SWp.blur 1000 0 (nl := false) (cells := (stR nb B most 0 out.length (q * 8 + 16 + 16) 2)) (jkR 2) (by simp (disch := omega) only [wP, wZ, undef, seval, if_pos, if_neg, aStore, frz, AV.flat, ↓reduceIte, ne_eq, reduceCtorEq, ByteArray.size]) (by simp only [stR, jkR, Blur]; simp) ?_
            refine SWp.le (le_mk (N := 82) (gc := 100) (l := [(0, .op 1000 0 0)]) (h := [(1000, 0, .row false (jkR 2))]) rfl ?_ ?_ ?_) ?_
            · exact Nat.le_refl _
            iterate 2 (case _ => simp (disch := omega) only [wP, wZ, undef, seval, if_pos, if_neg, aStore, frz, AV.flat, ↓reduceIte, ne_eq, reduceCtorEq, ByteArray.size])
            repeat (first | refine wA ?_ | refine wB ?_ | refine wC rfl ?_ | refine wD rfl ?_ | refine wE ?_ | refine wF (by omega) ?_ | ((first | refine wG ?_ | refine wH ?_ | refine wI ?_ | refine wJ ?_ | refine wK ?_ | refine wL ?_); simp (disch := omega) only [wP, wZ, undef, seval, if_pos, if_neg, aStore, frz, AV.flat, ↓reduceIte, ne_eq, reduceCtorEq, ByteArray.size, jkR, houC, iR, de]))
          · rw [if_neg c4] at hr
            have d4 : decide ((B.length : Int) - (((q * 8 : Nat) : Int) + 16 + 16) < 8 * (x : Int)) = false := decide_eq_false (by omega)
            by_cases c5 : most < out.length + x
            · rw [if_pos c5] at hr
              subst hr
              have de : decide ((4 : Int) = 0) = false := by decide
              have d5 : decide ((most : Int) - (out.length : Int) < (x : Int)) = true := decide_eq_true (by omega)
              refine goC_h [(1000, 0), (1001, 0)] 2000 h1 (by simp) (by simp) ?_ ?_ ?_
              iterate 2 (case _ => simp (disch := omega) only [wP, wZ, undef, seval, if_pos, if_neg, aStore, frz, AV.flat, ↓reduceIte, ne_eq, reduceCtorEq, ByteArray.size, stI, stR, iR])
              repeat (first | refine wA ?_ | refine wB ?_ | refine wC rfl ?_ | refine wD rfl ?_ | refine wE ?_ | refine wF (by omega) ?_ | ((first | refine wG ?_ | refine wH ?_ | refine wI ?_ | refine wJ ?_ | refine wK ?_ | refine wL ?_); simp (disch := omega) only [wP, wZ, undef, seval, if_pos, if_neg, aStore, frz, AV.flat, ↓reduceIte, ne_eq, reduceCtorEq, ByteArray.size, stO, stR, iR]))
              refine goC_h [(1000, 0), (1001, 0)] 3000 h2 (by simp) (by simp) ?_ ?_ ?_
              iterate 2 (case _ => simp (disch := omega) only [wP, wZ, undef, seval, if_pos, if_neg, aStore, frz, AV.flat, ↓reduceIte, ne_eq, reduceCtorEq, ByteArray.size, stI, stR, iR])
              repeat (first | refine wA ?_ | refine wB ?_ | refine wC rfl ?_ | refine wD rfl ?_ | refine wE ?_ | refine wF (by omega) ?_ | ((first | refine wG ?_ | refine wH ?_ | refine wI ?_ | refine wJ ?_ | refine wK ?_ | refine wL ?_); simp (disch := omega) only [wP, wZ, undef, seval, if_pos, if_neg, aStore, frz, AV.flat, ↓reduceIte, ne_eq, reduceCtorEq, ByteArray.size, stO, stR, iR, d3]))
              refine goC_h [(1000, 0), (1001, 0)] 4000 h3 (by simp) (by simp) ?_ ?_ ?_
              iterate 2 (case _ => simp (disch := omega) only [wP, wZ, undef, seval, if_pos, if_neg, aStore, frz, AV.flat, ↓reduceIte, ne_eq, reduceCtorEq, ByteArray.size, stI, stR, iR])
              simp (disch := omega) only [wP, wZ, undef, seval, if_pos, if_neg, aStore, frz, AV.flat, ↓reduceIte, ne_eq, reduceCtorEq, ByteArray.size, stO, stR, iR]
              iterate 16 (first | refine wA ?_ | refine wB ?_ | refine wC rfl ?_ | refine wD rfl ?_ | refine wE ?_ | refine wF (by omega) ?_ | ((first | refine wG ?_ | refine wH ?_ | refine wI ?_ | refine wJ ?_ | refine wK ?_ | refine wL ?_); simp (disch := omega) only [wP, wZ, undef, seval, if_pos, if_neg, aStore, frz, AV.flat, ↓reduceIte, ne_eq, reduceCtorEq, ByteArray.size, stR, iR, d4, d5]))

              refine SWp.le (le_mk (N := 82) (gc := 100) (l := [(0, .op 1000 0 0)]) (h := [(1000, 0, .row false (stR nb B most 0 out.length (q * 8 + 16 + 16) 4))]) rfl ?_ ?_ ?_) ?_
              · simp only; omega
              iterate 2 (case _ => simp (disch := omega) only [wP, wZ, undef, seval, if_pos, if_neg, aStore, frz, AV.flat, ↓reduceIte, ne_eq, reduceCtorEq, ByteArray.size, stR, iR])
              refine SWp.blur 1000 0 (nl := false) (cells := (stR nb B most 0 out.length (q * 8 + 16 + 16) 4)) (jkR 4) (by simp (disch := omega) only [wP, wZ, undef, seval, if_pos, if_neg, aStore, frz, AV.flat, ↓reduceIte, ne_eq, reduceCtorEq, ByteArray.size]) (by simp only [stR, jkR, Blur]; simp) ?_
              refine SWp.le (le_mk (N := 82) (gc := 100) (l := [(0, .op 1000 0 0)]) (h := [(1000, 0, .row false (jkR 4))]) rfl ?_ ?_ ?_) ?_
              · exact Nat.le_refl _
              iterate 2 (case _ => simp (disch := omega) only [wP, wZ, undef, seval, if_pos, if_neg, aStore, frz, AV.flat, ↓reduceIte, ne_eq, reduceCtorEq, ByteArray.size])
              repeat (first | refine wA ?_ | refine wB ?_ | refine wC rfl ?_ | refine wD rfl ?_ | refine wE ?_ | refine wF (by omega) ?_ | ((first | refine wG ?_ | refine wH ?_ | refine wI ?_ | refine wJ ?_ | refine wK ?_ | refine wL ?_); simp (disch := omega) only [wP, wZ, undef, seval, if_pos, if_neg, aStore, frz, AV.flat, ↓reduceIte, ne_eq, reduceCtorEq, ByteArray.size, jkR, houC, iR, de]))
            · rw [if_neg c5] at hr
              subst hr
              have d5 : decide ((most : Int) - (out.length : Int) < (x : Int)) = false := decide_eq_false (by omega)
              obtain ⟨w, hw⟩ : ∃ w, w = (b.drop (q + 4)).take x := ⟨_, rfl⟩
              have hwl : w.length = x := by rw [hw, List.length_take, List.length_drop]; omega
              have hwg : ∀ k, k < x → w.getD k 0 = b.getD (q + 4 + k) 0 := fun k hk => by
                rw [hw]; simp only [List.getD]; rw [List.getElem?_take, if_pos hk, List.getElem?_drop]
              rw [← hw]
              refine goC_h [(1000, 0), (1001, 0)] 2000 h1 (by simp) (by simp) ?_ ?_ ?_
              iterate 2 (case _ => simp (disch := omega) only [wP, wZ, undef, seval, if_pos, if_neg, aStore, frz, AV.flat, ↓reduceIte, ne_eq, reduceCtorEq, ByteArray.size, stI, stR, iR])
              repeat (first | refine wA ?_ | refine wB ?_ | refine wC rfl ?_ | refine wD rfl ?_ | refine wE ?_ | refine wF (by omega) ?_ | ((first | refine wG ?_ | refine wH ?_ | refine wI ?_ | refine wJ ?_ | refine wK ?_ | refine wL ?_); simp (disch := omega) only [wP, wZ, undef, seval, if_pos, if_neg, aStore, frz, AV.flat, ↓reduceIte, ne_eq, reduceCtorEq, ByteArray.size, stO, stR, iR]))
              refine goC_h [(1000, 0), (1001, 0)] 3000 h2 (by simp) (by simp) ?_ ?_ ?_
              iterate 2 (case _ => simp (disch := omega) only [wP, wZ, undef, seval, if_pos, if_neg, aStore, frz, AV.flat, ↓reduceIte, ne_eq, reduceCtorEq, ByteArray.size, stI, stR, iR])
              repeat (first | refine wA ?_ | refine wB ?_ | refine wC rfl ?_ | refine wD rfl ?_ | refine wE ?_ | refine wF (by omega) ?_ | ((first | refine wG ?_ | refine wH ?_ | refine wI ?_ | refine wJ ?_ | refine wK ?_ | refine wL ?_); simp (disch := omega) only [wP, wZ, undef, seval, if_pos, if_neg, aStore, frz, AV.flat, ↓reduceIte, ne_eq, reduceCtorEq, ByteArray.size, stO, stR, iR, d3]))
              refine goC_h [(1000, 0), (1001, 0)] 4000 h3 (by simp) (by simp) ?_ ?_ ?_
              iterate 2 (case _ => simp (disch := omega) only [wP, wZ, undef, seval, if_pos, if_neg, aStore, frz, AV.flat, ↓reduceIte, ne_eq, reduceCtorEq, ByteArray.size, stI, stR, iR])
              repeat (first | refine wA ?_ | refine wB ?_ | refine wC rfl ?_ | refine wD rfl ?_ | refine wE ?_ | refine wF (by omega) ?_ | ((first | refine wG ?_ | refine wH ?_ | refine wI ?_ | refine wJ ?_ | refine wK ?_ | refine wL ?_); simp (disch := omega) only [wP, wZ, undef, seval, if_pos, if_neg, aStore, frz, AV.flat, ↓reduceIte, ne_eq, reduceCtorEq, ByteArray.size, stO, stR, iR, d4, d5]))
              refine SWp.loop (α := Nat × Nat × Nat) (fun z => mk 82 z.2.2 [(0, .op 1000 0 0), (2, int (x : Int)), (4, int (z.1 : Int))] [(1000, 0, .row false (stR nb B most z.2.1 (out.length + z.1) (8 * (q + 4 + z.1)) 0)), (1001, z.2.1, .row (nl0 (out.length + z.1)) ((out ++ w.take z.1).map u8))])
                (fun z => z.1 ≤ x ∧ z.2.2 ≤ 100 + 2 * z.1) (fun z => x - z.1) (0, 0, 4) ⟨Nat.zero_le _, by simp only; omega⟩ (le_mk rfl ?_ ?_ ?_) ?_
              · exact Nat.le_refl _
              · simp (disch := omega) only [wP, wZ, undef, seval, if_pos, if_neg, aStore, frz, AV.flat, ↓reduceIte, ne_eq, reduceCtorEq, ByteArray.size]
              · have e0 : ((q * 8 : Nat) : Int) + 16 + 16 = ((8 * (q + 4) : Nat) : Int) := by omega
                simp (disch := omega) only [wP, wZ, undef, seval, if_pos, if_neg, aStore, frz, AV.flat, ↓reduceIte, ne_eq, reduceCtorEq, ByteArray.size, stR, iR, e0]
              rintro ⟨k, g, c⟩ ⟨hk, hc⟩ -
              simp only at hk hc
              have htl : (w.take k).length = k := by rw [List.length_take, hwl]; omega
              repeat (first | refine wA ?_ | refine wB ?_ | refine wC rfl ?_ | refine wD rfl ?_ | refine wE ?_ | refine wF (by omega) ?_ | ((first | refine wG ?_ | refine wH ?_ | refine wI ?_ | refine wJ ?_ | refine wK ?_ | refine wL ?_); simp (disch := omega) only [wP, wZ, undef, seval, if_pos, if_neg, aStore, frz, AV.flat, ↓reduceIte, ne_eq, reduceCtorEq, ByteArray.size]))
              refine SWp.cond rfl (fun h => ?_) (fun h => ?_)
              · simp only [decide_eq_true_eq] at h
                have hkx : k < x := by omega
                have hn8 := hNum (8 * (q + 4 + k)) 0 (by omega) (out ++ w.take k) 8 (by omega)
                rw [ok (by omega), numAt8 (by omega), ← hwg k hkx] at hn8
                have hsn := snocD (l := w) (k := k) (d := 0) (by omega)
                obtain ⟨v, hv⟩ : ∃ v, v = w.getD k 0 := ⟨_, rfl⟩
                rw [← hv] at hn8 hsn
                have hv8 := v.toNat_lt
                have hn0 : nl0 (out.length + (k + 1)) = false := nl0_pos (by omega)
                have e8 : 8 * (q + 4 + k) + 8 = 8 * (q + 4 + (k + 1)) := by omega
                have hol : (out ++ w.take k).length = out.length + k := by rw [List.length_append, htl]
                repeat (first | refine wA ?_ | refine wB ?_ | refine wC rfl ?_ | refine wD rfl ?_ | refine wE ?_ | refine wF (by omega) ?_ | ((first | refine wG ?_ | refine wH ?_ | refine wI ?_ | refine wJ ?_ | refine wK ?_ | refine wL ?_); simp (disch := omega) only [wP, wZ, undef, seval, if_pos, if_neg, aStore, frz, AV.flat, ↓reduceIte, ne_eq, reduceCtorEq, ByteArray.size, stR, iR]))
                refine goC_h [(1000, 0), (1001, g)] 5000 hn8 (by simp) (by simp) ?_ ?_ ?_
                iterate 2 (case _ => simp (disch := omega) only [wP, wZ, undef, seval, if_pos, if_neg, aStore, frz, AV.flat, ↓reduceIte, ne_eq, reduceCtorEq, ByteArray.size, stI, stR, iR, htl])
                repeat (first | refine wA ?_ | refine wB ?_ | refine wC rfl ?_ | refine wD rfl ?_ | refine wE ?_ | refine wF (by omega) ?_ | ((first | refine wG ?_ | refine wH ?_ | refine wI ?_ | refine wJ ?_ | refine wK ?_ | refine wL ?_); simp (disch := omega) only [wP, wZ, undef, seval, if_pos, if_neg, aStore, frz, AV.flat, ↓reduceIte, ne_eq, reduceCtorEq, ByteArray.size, stO, stR, iR, e8, htl]))
                refine At.of (k + 1, c + 1, c + 2) ⟨by simp only; omega, by simp only; omega⟩ (by simp only; omega) rfl rfl ?_ ?_ ?_
                · simp only; omega
                iterate 2 (case _ => simp (disch := omega) only [wP, wZ, undef, seval, if_pos, if_neg, aStore, frz, AV.flat, ↓reduceIte, ne_eq, reduceCtorEq, ByteArray.size, stR, hsn, hn0, iR, Nat.add_assoc])
              · simp only [decide_eq_false_iff_not] at h
                obtain rfl : k = x := by omega
                have htw : w.take k = w := List.take_of_length_le (by omega)
                rw [htw]
                refine SWp.le (le_mk (N := 82) (gc := 200000) (l := [(0, .op 1000 0 0)]) (h := [(1000, 0, .row false (stR nb B most g (out.length + k) (8 * (q + 4 + k)) 0)), (1001, g, .row (nl0 (out.length + k)) ((out ++ w).map u8))]) rfl ?_ ?_ ?_) ?_
                · show c ≤ 200000; omega
                iterate 2 (case _ => simp (disch := omega) only [wP, wZ, undef, seval, if_pos, if_neg, aStore, frz, AV.flat, ↓reduceIte, ne_eq, reduceCtorEq, ByteArray.size, stR, iR])
                refine SWp.renew 1001 g (o := .row (nl0 (out.length + k)) ((out ++ w).map u8)) (by simp (disch := omega) only [wP, wZ, undef, seval, if_pos, if_neg, aStore, frz, AV.flat, ↓reduceIte, ne_eq, reduceCtorEq, ByteArray.size]) ?_
                refine SWp.le (le_mk (N := 82) (gc := 200001) (l := [(0, .op 1000 0 0)]) (h := [(1000, 0, .row false (stR nb B most 200000 (out.length + k) (8 * (q + 4 + k)) 0)), (1001, 200000, .row (nl0 (out.length + k)) ((out ++ w).map u8))]) rfl ?_ ?_ ?_) ?_
                · exact Nat.le_refl _
                iterate 2 (case _ => simp (disch := omega) only [wP, wZ, undef, seval, if_pos, if_neg, aStore, frz, AV.flat, ↓reduceIte, ne_eq, reduceCtorEq, ByteArray.size, rgn_eq, rgH_at, stR, iR])
                repeat (first | refine wA ?_ | refine wB ?_ | refine wC rfl ?_ | refine wD rfl ?_ | refine wE ?_ | refine wF (by omega) ?_ | ((first | refine wG ?_ | refine wH ?_ | refine wI ?_ | refine wJ ?_ | refine wK ?_ | refine wL ?_); simp (disch := omega) only [wP, wZ, undef, seval, if_pos, if_neg, aStore, frz, AV.flat, ↓reduceIte, ne_eq, reduceCtorEq, ByteArray.size, houC, stO, stR, iR, hwl]))
                all_goals trace_state
  · have d0 : decide (((j % 8 : Nat) : Int) = 0) = false := decide_eq_false (by omega)
    repeat (first | refine wA ?_ | refine wB ?_ | refine wC rfl ?_ | refine wD rfl ?_ | refine wE ?_ | refine wF (by omega) ?_ | ((first | refine wG ?_ | refine wH ?_ | refine wI ?_ | refine wJ ?_ | refine wK ?_ | refine wL ?_); simp (disch := omega) only [wP, wZ, undef, seval, if_pos, if_neg, aStore, frz, AV.flat, ↓reduceIte, ne_eq, reduceCtorEq, ByteArray.size, stR, iR, d0]))
    refine At.of (j + 1) ⟨by omega, by omega⟩ (by omega) rfl rfl (Nat.le_refl _) ?_ ?_
    iterate 2 (case _ => simp (disch := omega) only [wP, wZ, undef, seval, if_pos, if_neg, aStore, frz, AV.flat, ↓reduceIte, ne_eq, reduceCtorEq, ByteArray.size, stR, iR])
end Go.Proofs.YtokdmakljdhjiaaDoor.Aw
