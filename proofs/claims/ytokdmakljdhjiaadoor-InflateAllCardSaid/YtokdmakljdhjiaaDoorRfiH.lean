/- Contracts: (*state).told of drayageref04. -/
import Derived.Test.YtokdmakljdhjiaaDoorPkJ
namespace Go.Proofs.YtokdmakljdhjiaaDoor.Aw
open Go
set_option linter.unusedSimpArgs false
set_option linter.unusedVariables false

theorem nuS_fact {b : List UInt8} {n i e : Nat} (hn : n ≤ 24) (hi : i ≤ 8 * b.length) : (nuS (bitsL b) n i e).1 < 2 ^ n ∧ (nuS (bitsL b) n i e).2.1 ≤ 8 * b.length := by
  refine ⟨nuS_lt2 bitsL_lt, ?_⟩
  unfold nuS
  split
  · exact hi
  · rw [length_bitsL]; split <;> simp only <;> omega
/-- The three counts of a block, and what is wrong behind them. -/
theorem told_head {b : List UInt8} {most F i : Nat} {out : List UInt8} {r : BR (List UInt8)} (hi : i ≤ 8 * b.length) (hr : (tolT.bnd fun p => symT p.1 p.2 most F out).run (bitsL b) i = r)
    {x p1 e1 y p2 e2 z p3 e3 e4 : Nat} (h1 : nuS (bitsL b) 5 i 0 = (x, p1, e1)) (h2 : nuS (bitsL b) 5 p1 e1 = (y, p2, e2)) (h3 : nuS (bitsL b) 4 p2 e2 = (z, p3, e3)) (h4 : e4 = if (286 < x + 257 ∨ 30 < y + 1) ∧ e3 = 0 then 3 else e3) :
    x < 32 ∧ y < 32 ∧ z < 16 ∧ p3 ≤ 8 * b.length ∧ ((e4 = 0 ∧ x + 257 ≤ 286 ∧ y + 1 ≤ 30 ∧ ((telT (z + 4) 0 (List.replicate 19 0)).bnd (K1 most F (x + 257) (y + 1) out)).run (bitsL b) p3 = r) ∨ (e4 ≠ 0 ∧ r = .no e4)) := by
  have f1 := nuS_fact (b := b) (n := 5) (i := i) (e := 0) (by omega) hi
  rw [h1] at f1
  have f2 := nuS_fact (b := b) (n := 5) (i := p1) (e := e1) (by omega) f1.2
  rw [h2] at f2
  have f3 := nuS_fact (b := b) (n := 4) (i := p2) (e := e2) (by omega) f2.2
  rw [h3] at f3
  simp only at f1 f2 f3
  refine ⟨by omega, by omega, by omega, f3.2, ?_⟩
  rw [tol_run hi] at hr
  by_cases c1 : i + 5 ≤ 8 * b.length
  · rw [nuS_ok c1] at h1
    simp only [Prod.mk.injEq] at h1
    obtain ⟨rfl, rfl, rfl⟩ := h1
    by_cases c2 : i + 5 + 5 ≤ 8 * b.length
    · rw [nuS_ok c2] at h2
      simp only [Prod.mk.injEq] at h2
      obtain ⟨rfl, rfl, rfl⟩ := h2
      by_cases c3 : i + 5 + 5 + 4 ≤ 8 * b.length
      · rw [nuS_ok c3] at h3
        simp only [Prod.mk.injEq] at h3
        obtain ⟨rfl, rfl, rfl⟩ := h3
        rw [if_pos (by omega)] at hr
        by_cases c4 : 286 < numAt b i 5 + 257 ∨ 30 < numAt b (i + 5) 5 + 1
        · rw [if_pos c4] at hr
          rw [if_pos ⟨c4, rfl⟩] at h4
          exact .inr ⟨by omega, by rw [h4]; exact hr.symm⟩
        · rw [if_neg c4] at hr
          rw [if_neg (fun h => c4 h.1)] at h4
          exact .inl ⟨h4, by omega, by omega, hr⟩
      · rw [nuS_no c3] at h3
        simp only [Prod.mk.injEq] at h3
        obtain ⟨rfl, rfl, rfl⟩ := h3
        rw [if_neg (by omega)] at hr
        rw [if_neg (fun h => by omega)] at h4
        exact .inr ⟨by omega, by rw [h4]; exact hr.symm⟩
    · rw [nuS_no c2] at h2
      simp only [Prod.mk.injEq] at h2
      obtain ⟨rfl, rfl, rfl⟩ := h2
      rw [nuS_e (by omega)] at h3
      simp only [Prod.mk.injEq] at h3
      obtain ⟨rfl, rfl, rfl⟩ := h3
      rw [if_neg (by omega)] at hr
      rw [if_neg (fun h => by omega)] at h4
      exact .inr ⟨by omega, by rw [h4]; exact hr.symm⟩
  · rw [nuS_no c1] at h1
    simp only [Prod.mk.injEq] at h1
    obtain ⟨rfl, rfl, rfl⟩ := h1
    rw [nuS_e (by omega)] at h2
    simp only [Prod.mk.injEq] at h2
    obtain ⟨rfl, rfl, rfl⟩ := h2
    rw [nuS_e (by omega)] at h3
    simp only [Prod.mk.injEq] at h3
    obtain ⟨rfl, rfl, rfl⟩ := h3
    rw [if_neg (by omega)] at hr
    rw [if_neg (fun h => by omega)] at h4
    exact .inr ⟨by omega, by rw [h4]; exact hr.symm⟩

theorem ls_step {B th : List Nat} {N f s p y n p2 e2 e3 : Nat} {lens : List Nat} {K : List Nat → BT (List UInt8)} {r : BR (List UInt8)} (h16 : ¬ (s = 16 ∧ lens = [])) (hy : y = lsV s lens)
    (hp : (plusT (lsN s) (lsB s)).run B p = if e2 = 0 then .ok n p2 else .no e2) (he3 : e3 = if N < lens.length + n ∧ e2 = 0 then 3 else e2)
    (hrun : ((if s = 16 ∧ lens = [] then BT.err 3 else (plusT (lsN s) (lsB s)).bnd fun t => if N < lens.length + t then .err 3 else lsT th N f (lens ++ List.replicate t (lsV s lens))).run B p).bnd (fun a j => (K a).run B j) = r) :
    (e3 = 0 ∧ ((lsT th N f (lens ++ List.replicate n y)).bnd K).run B p2 = r ∧ lens.length + n ≤ N) ∨ (e3 ≠ 0 ∧ r = .no e3) := by
  rw [if_neg h16, run_bnd, hp] at hrun
  by_cases c : e2 = 0
  · rw [if_pos c] at hrun
    simp only [BR.bnd] at hrun
    by_cases c2 : N < lens.length + n
    · rw [if_pos c2] at hrun
      rw [if_pos ⟨c2, c⟩] at he3
      exact .inr ⟨by omega, by rw [he3]; exact hrun.symm⟩
    · rw [if_neg c2] at hrun
      rw [if_neg (fun q => c2 q.1)] at he3
      refine .inl ⟨by omega, ?_, by omega⟩
      rw [run_bnd, hy]
      exact hrun
  · rw [if_neg c] at hrun
    rw [if_neg (fun q => c q.2)] at he3
    exact .inr ⟨by omega, by rw [he3]; exact hrun.symm⟩
theorem lsV_le {s : Nat} {lens : List Nat} (hs : s < 19) (h16 : ¬ (s = 16 ∧ lens = [])) (h15 : ∀ y ∈ lens, y ≤ 15) : lsV s lens ≤ 15 := by
  unfold lsV
  split
  · rename_i e16
    have hne : lens ≠ [] := fun h => h16 ⟨e16, h⟩
    have h0 : lens.length - 1 < lens.length := by have := List.length_pos_iff.2 hne; omega
    have : lens.getD (lens.length - 1) 0 = lens[lens.length - 1] := by simp [List.getD, List.getElem?_eq_getElem h0]
    rw [this]; exact h15 _ (List.getElem_mem h0)
  · split
    · omega
    · omega
theorem rep_app {lens : List Nat} {n y : Nat} (hy : y ≤ 15) (h15 : ∀ x ∈ lens, x ≤ 15) : ∀ x ∈ lens ++ List.replicate n y, x ≤ 15 := by
  intro x hx
  rcases List.mem_append.1 hx with hx | hx
  · exact h15 x hx
  · rw [(List.mem_replicate.1 hx).2]; exact hy

set_option maxHeartbeats 8000000 in
set_option maxRecDepth 100000 in
theorem rf_told_h [Tabs Tryd.prog] (nb : Bool) (b : List UInt8) (hb : b.length ≤ 10000) (most : Nat) (hm : most ≤ 16777216) (i : Nat) (hi : i ≤ 8 * b.length) (out : List UInt8) (ho : out.length ≤ most) (F : Nat) (hF : 8 * b.length < F) (r : BR (List UInt8)) (hr : (tolT.bnd fun p => symT p.1 p.2 most F out).run (bitsL b) i = r) :
    HCon Tryd.prog n_drayageref04_state_told [.op 1000 0 0] (stI nb (bitsL b) most i 0 out) (.tup []) (houC (1000 * F + 500000) nb (bitsL b) most r) (1000 * F + 500001) := by
  refine HCon.of' mix Tryd.func19 rfl Tryd.ntmps19 e_drayageref04_state_told r_drayageref04_state_told (by simp) (by simp [AV.gl, AV.gl.glL]) st_gl ?_
  unfold s_drayageref04_state_told
  have hBl : (bitsL b).length = 8 * b.length := length_bitsL
  have hNum := fun i e hi out n hn => rf_number_h nb (bitsL b) (by rw [hBl]; omega) bitsL_lt most i e hi out n hn
  have fact := fun {n i e : Nat} (hn : n ≤ 24) (hi : i ≤ 8 * b.length) => nuS_fact (b := b) (e := e) hn hi
  have ok := fun {n i : Nat} (h : i + n ≤ 8 * b.length) => nuS_ok (b := b) h
  have no := fun {n i : Nat} (h : ¬ i + n ≤ 8 * b.length) => nuS_no (b := b) h
  have ke := fun {n i e : Nat} (h : e ≠ 0) => nuS_e (B := bitsL b) (n := n) (i := i) h
  obtain ⟨⟨x, p1, e1⟩, h1⟩ : ∃ s, nuS (bitsL b) 5 i 0 = s := ⟨_, rfl⟩
  obtain ⟨⟨y, p2, e2⟩, h2⟩ : ∃ s, nuS (bitsL b) 5 p1 e1 = s := ⟨_, rfl⟩
  obtain ⟨⟨z, p3, e3⟩, h3⟩ : ∃ s, nuS (bitsL b) 4 p2 e2 = s := ⟨_, rfl⟩
  obtain ⟨e4, h4⟩ : ∃ e4, e4 = if (286 < x + 257 ∨ 30 < y + 1) ∧ e3 = 0 then 3 else e3 := ⟨_, rfl⟩
  obtain ⟨hx32, hy32, hz16, hp3, hinv⟩ := told_head hi hr h1 h2 h3 h4
  have hrT := fun {n i : Nat} (h : i ≤ 8 * b.length) => run_num (b := b) (n := n) h
  have hp1 : p1 ≤ 8 * b.length := by have := (fact (n := 5) (i := i) (e := 0) (by omega) hi).2; rw [h1] at this; exact this
  have hp2 : p2 ≤ 8 * b.length := by have := (fact (n := 5) (i := p1) (e := e1) (by omega) hp1).2; rw [h2] at this; exact this
  have c1 := hNum i 0 (by omega) out 5 (by omega)
  have c2 := hNum p1 e1 (by omega) out 5 (by omega)
  have c3 := hNum p2 e2 (by omega) out 4 (by omega)
  rw [h1] at c1
  rw [h2] at c2
  rw [h3] at c3
  have c4 := rf_bad_h nb (bitsL b) most p3 e3 out (decide (286 < x + 257 ∨ 30 < y + 1)) 3
  have hee : (if decide (286 < x + 257 ∨ 30 < y + 1) = true ∧ e3 = 0 then 3 else e3) = e4 := by rw [h4]; simp only [decide_eq_true_eq]
  rw [hee] at c4
  clear h1 h2 h3 h4 hee hr
  obtain ⟨L, hL⟩ : ∃ L, L = x + 257 := ⟨_, rfl⟩
  obtain ⟨D, hD⟩ : ∃ D, D = y + 1 := ⟨_, rfl⟩
  obtain ⟨N, hN⟩ : ∃ N, N = z + 4 := ⟨_, rfl⟩
  have eL : (x : Int) + 257 = (L : Int) := by omega
  have eD : (y : Int) + 1 = (D : Int) := by omega
  have eN : (z : Int) + 4 = (N : Int) := by omega
  rw [← hL, ← hD, ← hN] at hinv
  rw [← hL, ← hD] at c4
  have hB2 := bitsL_lt (l := b)
  obtain ⟨B, hB⟩ : ∃ B, B = bitsL b := ⟨_, rfl⟩
  rw [← hB] at hBl hB2
  simp only [← hB] at hNum fact ok no ke c1 c2 c3 c4 hinv hrT ⊢
  have q1 : decide ((286 : Int) < (L : Int)) = decide (286 < L) := decide_eq_decide.2 (by omega)
  have q2 : decide ((30 : Int) < (D : Int)) = decide (30 < D) := decide_eq_decide.2 (by omega)
  obtain ⟨TT, hTT⟩ : ∃ TT, TT = tells := ⟨_, rfl⟩
  have hTl : TT.length = 19 := by rw [hTT]; rfl
  have hTx : ∀ k, k < 19 → TT.getD k 0 < 19 := by rw [hTT]; exact tells_lt
  have hTe : [AV.sc (.int .i64 16), .sc (.int .i64 17), .sc (.int .i64 18), .sc (.int .i64 0), .sc (.int .i64 8), .sc (.int .i64 7), .sc (.int .i64 9), .sc (.int .i64 6), .sc (.int .i64 10), .sc (.int .i64 5), .sc (.int .i64 11), .sc (.int .i64 4), .sc (.int .i64 12), .sc (.int .i64 3), .sc (.int .i64 13), .sc (.int .i64 2), .sc (.int .i64 14), .sc (.int .i64 1), .sc (.int .i64 15)] = TT.map nA := by rw [hTT]; rfl
  have ptm := rf_times_h 0 19 (by omega)
  obtain ⟨Z, hZ⟩ : ∃ Z : List Nat, Z = List.replicate 19 0 := ⟨_, rfl⟩
  have hZl : Z.length = 19 := by rw [hZ]; rfl
  have hZ7 : ∀ x ∈ Z, x ≤ 7 := by rw [hZ]; simp
  rw [← hZ] at ptm hinv
  have hl0 : nl0 19 = false := rfl
  rw [hl0] at ptm
  refine SWp.to (F := mk 190 2 [(0, .op 1000 0 0), (2, int (L : Int))] [(1000, 0, .row false (stR nb B most 0 out.length p1 e1)), (1001, 0, .row (nl0 out.length) (out.map u8))]) ?_ ?_
  · repeat (first | refine wA ?_ | refine wB ?_ | refine wC rfl ?_ | refine wD rfl ?_ | refine wE ?_ | refine wF (by omega) ?_ | ((first | refine wG ?_ | refine wH ?_ | refine wI ?_ | refine wJ ?_ | refine wK ?_ | refine wL ?_); simp (disch := omega) only [wP, wZ, undef, seval, if_pos, if_neg, aStore, frz, AV.flat, ↓reduceIte, ne_eq, reduceCtorEq, ByteArray.size]))
    refine goC_h [(1000, 0), (1001, 0)] 2000 c1 (by simp) (by simp) ?_ ?_ ?_
    iterate 2 (case _ => simp (disch := omega) only [wP, wZ, undef, seval, if_pos, if_neg, aStore, frz, AV.flat, ↓reduceIte, ne_eq, reduceCtorEq, ByteArray.size, stI, stR, iR, cdA])
    repeat (first | refine wA ?_ | refine wB ?_ | refine wC rfl ?_ | refine wD rfl ?_ | refine wE ?_ | refine wF (by omega) ?_ | ((first | refine wG ?_ | refine wH ?_ | refine wI ?_ | refine wJ ?_ | refine wK ?_ | refine wL ?_); simp (disch := omega) only [wP, wZ, undef, seval, if_pos, if_neg, aStore, frz, AV.flat, ↓reduceIte, ne_eq, reduceCtorEq, ByteArray.size, stO, stR, iR, eL]))
    exact le_mk rfl (Nat.le_refl _) (by simp (disch := omega) only [wP, wZ, undef, seval, if_pos, if_neg, aStore, frz, AV.flat, ↓reduceIte, ne_eq, reduceCtorEq, ByteArray.size]) (by simp (disch := omega) only [wP, wZ, undef, seval, if_pos, if_neg, aStore, frz, AV.flat, ↓reduceIte, ne_eq, reduceCtorEq, ByteArray.size, stR, iR])
  refine SWp.to (F := mk 190 3 [(0, .op 1000 0 0), (2, int (L : Int)), (3, int (D : Int))] [(1000, 0, .row false (stR nb B most 0 out.length p2 e2)), (1001, 0, .row (nl0 out.length) (out.map u8))]) ?_ ?_
  · repeat (first | refine wA ?_ | refine wB ?_ | refine wC rfl ?_ | refine wD rfl ?_ | refine wE ?_ | refine wF (by omega) ?_ | ((first | refine wG ?_ | refine wH ?_ | refine wI ?_ | refine wJ ?_ | refine wK ?_ | refine wL ?_); simp (disch := omega) only [wP, wZ, undef, seval, if_pos, if_neg, aStore, frz, AV.flat, ↓reduceIte, ne_eq, reduceCtorEq, ByteArray.size]))
    refine goC_h [(1000, 0), (1001, 0)] 3000 c2 (by simp) (by simp) ?_ ?_ ?_
    iterate 2 (case _ => simp (disch := omega) only [wP, wZ, undef, seval, if_pos, if_neg, aStore, frz, AV.flat, ↓reduceIte, ne_eq, reduceCtorEq, ByteArray.size, stI, stR, iR, cdA])
    repeat (first | refine wA ?_ | refine wB ?_ | refine wC rfl ?_ | refine wD rfl ?_ | refine wE ?_ | refine wF (by omega) ?_ | ((first | refine wG ?_ | refine wH ?_ | refine wI ?_ | refine wJ ?_ | refine wK ?_ | refine wL ?_); simp (disch := omega) only [wP, wZ, undef, seval, if_pos, if_neg, aStore, frz, AV.flat, ↓reduceIte, ne_eq, reduceCtorEq, ByteArray.size, stO, stR, iR, eD]))
    exact le_mk rfl (Nat.le_refl _) (by simp (disch := omega) only [wP, wZ, undef, seval, if_pos, if_neg, aStore, frz, AV.flat, ↓reduceIte, ne_eq, reduceCtorEq, ByteArray.size]) (by simp (disch := omega) only [wP, wZ, undef, seval, if_pos, if_neg, aStore, frz, AV.flat, ↓reduceIte, ne_eq, reduceCtorEq, ByteArray.size, stR, iR])
  refine SWp.to (F := mk 190 4 [(0, .op 1000 0 0), (2, int (L : Int)), (3, int (D : Int)), (4, int (N : Int))] [(1000, 0, .row false (stR nb B most 0 out.length p3 e3)), (1001, 0, .row (nl0 out.length) (out.map u8))]) ?_ ?_
  · repeat (first | refine wA ?_ | refine wB ?_ | refine wC rfl ?_ | refine wD rfl ?_ | refine wE ?_ | refine wF (by omega) ?_ | ((first | refine wG ?_ | refine wH ?_ | refine wI ?_ | refine wJ ?_ | refine wK ?_ | refine wL ?_); simp (disch := omega) only [wP, wZ, undef, seval, if_pos, if_neg, aStore, frz, AV.flat, ↓reduceIte, ne_eq, reduceCtorEq, ByteArray.size]))
    refine goC_h [(1000, 0), (1001, 0)] 4000 c3 (by simp) (by simp) ?_ ?_ ?_
    iterate 2 (case _ => simp (disch := omega) only [wP, wZ, undef, seval, if_pos, if_neg, aStore, frz, AV.flat, ↓reduceIte, ne_eq, reduceCtorEq, ByteArray.size, stI, stR, iR, cdA])
    repeat (first | refine wA ?_ | refine wB ?_ | refine wC rfl ?_ | refine wD rfl ?_ | refine wE ?_ | refine wF (by omega) ?_ | ((first | refine wG ?_ | refine wH ?_ | refine wI ?_ | refine wJ ?_ | refine wK ?_ | refine wL ?_); simp (disch := omega) only [wP, wZ, undef, seval, if_pos, if_neg, aStore, frz, AV.flat, ↓reduceIte, ne_eq, reduceCtorEq, ByteArray.size, stO, stR, iR, eN]))
    exact le_mk rfl (Nat.le_refl _) (by simp (disch := omega) only [wP, wZ, undef, seval, if_pos, if_neg, aStore, frz, AV.flat, ↓reduceIte, ne_eq, reduceCtorEq, ByteArray.size]) (by simp (disch := omega) only [wP, wZ, undef, seval, if_pos, if_neg, aStore, frz, AV.flat, ↓reduceIte, ne_eq, reduceCtorEq, ByteArray.size, stR, iR])
  refine SWp.to (F := mk 190 5 [(0, .op 1000 0 0), (2, int (L : Int)), (3, int (D : Int)), (4, int (N : Int))] [(1000, 0, .row false (stR nb B most 0 out.length p3 e4)), (1001, 0, .row (nl0 out.length) (out.map u8))]) ?_ ?_
  · by_cases k1 : 286 < L
    · have d1 : decide ((286 : Int) < (L : Int)) = true := decide_eq_true (by omega)
      rw [decide_eq_true (show 286 < L ∨ 30 < D from .inl k1)] at c4
      repeat (first | refine wA ?_ | refine wB ?_ | refine wC rfl ?_ | refine wD rfl ?_ | refine wE ?_ | refine wF (by omega) ?_ | ((first | refine wG ?_ | refine wH ?_ | refine wI ?_ | refine wJ ?_ | refine wK ?_ | refine wL ?_); simp (disch := omega) only [wP, wZ, undef, seval, if_pos, if_neg, aStore, frz, AV.flat, ↓reduceIte, ne_eq, reduceCtorEq, ByteArray.size, d1]))
      refine goC_h [(1000, 0), (1001, 0)] 5000 c4 (by simp) (by simp) ?_ ?_ ?_
      iterate 2 (case _ => simp (disch := omega) only [wP, wZ, undef, seval, if_pos, if_neg, aStore, frz, AV.flat, ↓reduceIte, ne_eq, reduceCtorEq, ByteArray.size, stI, stR, iR, cdA])
      simp (disch := omega) only [wP, wZ, undef, seval, if_pos, if_neg, aStore, frz, AV.flat, ↓reduceIte, ne_eq, reduceCtorEq, ByteArray.size, stO, stR, iR]
      exact le_mk rfl (Nat.le_refl _) (by simp (disch := omega) only [wP, wZ, undef, seval, if_pos, if_neg, aStore, frz, AV.flat, ↓reduceIte, ne_eq, reduceCtorEq, ByteArray.size]) (by simp (disch := omega) only [wP, wZ, undef, seval, if_pos, if_neg, aStore, frz, AV.flat, ↓reduceIte, ne_eq, reduceCtorEq, ByteArray.size, stR, iR])
    · have d1 : decide ((286 : Int) < (L : Int)) = false := decide_eq_false (by omega)
      by_cases k2 : 30 < D
      · have d2 : decide ((30 : Int) < (D : Int)) = true := decide_eq_true (by omega)
        rw [decide_eq_true (show 286 < L ∨ 30 < D from .inr k2)] at c4
        repeat (first | refine wA ?_ | refine wB ?_ | refine wC rfl ?_ | refine wD rfl ?_ | refine wE ?_ | refine wF (by omega) ?_ | ((first | refine wG ?_ | refine wH ?_ | refine wI ?_ | refine wJ ?_ | refine wK ?_ | refine wL ?_); simp (disch := omega) only [wP, wZ, undef, seval, if_pos, if_neg, aStore, frz, AV.flat, ↓reduceIte, ne_eq, reduceCtorEq, ByteArray.size, d1, d2]))
        refine goC_h [(1000, 0), (1001, 0)] 5000 c4 (by simp) (by simp) ?_ ?_ ?_
        iterate 2 (case _ => simp (disch := omega) only [wP, wZ, undef, seval, if_pos, if_neg, aStore, frz, AV.flat, ↓reduceIte, ne_eq, reduceCtorEq, ByteArray.size, stI, stR, iR, cdA])
        simp (disch := omega) only [wP, wZ, undef, seval, if_pos, if_neg, aStore, frz, AV.flat, ↓reduceIte, ne_eq, reduceCtorEq, ByteArray.size, stO, stR, iR]
        exact le_mk rfl (Nat.le_refl _) (by simp (disch := omega) only [wP, wZ, undef, seval, if_pos, if_neg, aStore, frz, AV.flat, ↓reduceIte, ne_eq, reduceCtorEq, ByteArray.size]) (by simp (disch := omega) only [wP, wZ, undef, seval, if_pos, if_neg, aStore, frz, AV.flat, ↓reduceIte, ne_eq, reduceCtorEq, ByteArray.size, stR, iR])
      · have d2 : decide ((30 : Int) < (D : Int)) = false := decide_eq_false (by omega)
        rw [decide_eq_false (show ¬ (286 < L ∨ 30 < D) by omega)] at c4
        repeat (first | refine wA ?_ | refine wB ?_ | refine wC rfl ?_ | refine wD rfl ?_ | refine wE ?_ | refine wF (by omega) ?_ | ((first | refine wG ?_ | refine wH ?_ | refine wI ?_ | refine wJ ?_ | refine wK ?_ | refine wL ?_); simp (disch := omega) only [wP, wZ, undef, seval, if_pos, if_neg, aStore, frz, AV.flat, ↓reduceIte, ne_eq, reduceCtorEq, ByteArray.size, d1, d2]))
        refine goC_h [(1000, 0), (1001, 0)] 5000 c4 (by simp) (by simp) ?_ ?_ ?_
        iterate 2 (case _ => simp (disch := omega) only [wP, wZ, undef, seval, if_pos, if_neg, aStore, frz, AV.flat, ↓reduceIte, ne_eq, reduceCtorEq, ByteArray.size, stI, stR, iR, cdA])
        simp (disch := omega) only [wP, wZ, undef, seval, if_pos, if_neg, aStore, frz, AV.flat, ↓reduceIte, ne_eq, reduceCtorEq, ByteArray.size, stO, stR, iR]
        exact le_mk rfl (Nat.le_refl _) (by simp (disch := omega) only [wP, wZ, undef, seval, if_pos, if_neg, aStore, frz, AV.flat, ↓reduceIte, ne_eq, reduceCtorEq, ByteArray.size]) (by simp (disch := omega) only [wP, wZ, undef, seval, if_pos, if_neg, aStore, frz, AV.flat, ↓reduceIte, ne_eq, reduceCtorEq, ByteArray.size, stR, iR])
  clear c1 c2 c3 c4 q1 q2 hp1 hp2
  repeat (first | refine wA ?_ | refine wB ?_ | refine wC rfl ?_ | refine wD rfl ?_ | refine wE ?_ | refine wF (by omega) ?_ | ((first | refine wG ?_ | refine wH ?_ | refine wI ?_ | refine wJ ?_ | refine wK ?_ | refine wL ?_); simp (disch := omega) only [wP, wZ, undef, seval, if_pos, if_neg, aStore, frz, AV.flat, ↓reduceIte, ne_eq, reduceCtorEq, ByteArray.size]))
  refine goC_h [] 4000 ptm (by simp) (by simp) ?_ ?_ ?_
  iterate 2 (case _ => simp (disch := omega) only [wP, wZ, undef, seval, if_pos, if_neg, aStore, frz, AV.flat, ↓reduceIte, ne_eq, reduceCtorEq, ByteArray.size])
  repeat (first | refine wA ?_ | refine wB ?_ | refine wC rfl ?_ | refine wD rfl ?_ | refine wE ?_ | refine wF (by omega) ?_ | ((first | refine wG ?_ | refine wH ?_ | refine wI ?_ | refine wJ ?_ | refine wK ?_ | refine wL ?_); simp (disch := omega) only [wP, wZ, undef, seval, if_pos, if_neg, aStore, frz, AV.flat, ↓reduceIte, ne_eq, reduceCtorEq, ByteArray.size, hTe]))
  refine SWp.loop (α := Nat × List Nat × Nat × Nat) (fun x => mk 190 (29 + x.1) [(0, .op 1000 0 0), (2, int (L : Int)), (3, int (D : Int)), (4, int (N : Int)), (5, .own 33 5 none 0 19), (6, .own 4005 28 none 0 19), (7, int (x.1 : Int))] [(1000, 0, .row false (stR nb B most 0 out.length x.2.2.1 x.2.2.2)), (1001, 0, .row (nl0 out.length) (out.map u8)), (33, 5, .row false (TT.map nA)), (4005, 28, .row false (x.2.1.map nA))])
    (fun x => x.1 ≤ N ∧ x.2.1.length = 19 ∧ (∀ y ∈ x.2.1, y ≤ 7) ∧ x.2.2.1 ≤ 8 * b.length ∧ ((x.2.2.2 = 0 ∧ L ≤ 286 ∧ D ≤ 30 ∧ ((telT (N - x.1) x.1 x.2.1).bnd (K1 most F L D out)).run B x.2.2.1 = r) ∨ (x.2.2.2 ≠ 0 ∧ r = .no x.2.2.2))) (fun x => N - x.1) (0, Z, p3, e4) ⟨Nat.zero_le _, hZl, hZ7, hp3, hinv⟩ (le_mk rfl ?_ ?_ ?_) ?_
  · exact Nat.le_refl _
  iterate 2 (case _ => simp (disch := omega) only [wP, wZ, undef, seval, if_pos, if_neg, aStore, frz, AV.flat, ↓reduceIte, ne_eq, reduceCtorEq, ByteArray.size, stR, iR])
  clear hinv
  rintro ⟨k, th, at0, e⟩ ⟨hk, hthl, hth7, hat, hinv⟩ -
  simp only at hk hthl hth7 hat hinv
  repeat (first | refine wA ?_ | refine wB ?_ | refine wC rfl ?_ | refine wD rfl ?_ | refine wE ?_ | refine wF (by omega) ?_ | ((first | refine wG ?_ | refine wH ?_ | refine wI ?_ | refine wJ ?_ | refine wK ?_ | refine wL ?_); simp (disch := omega) only [wP, wZ, undef, seval, if_pos, if_neg, aStore, frz, AV.flat, ↓reduceIte, ne_eq, reduceCtorEq, ByteArray.size]))
  refine SWp.cond rfl (fun h => ?_) (fun h => ?_)
  · simp only [decide_eq_true_eq] at h
    have c1 := hNum at0 e (by omega) out 3 (by omega)
    have f1 := fact (n := 3) (i := at0) (e := e) (by omega) hat
    obtain ⟨f, hf⟩ : ∃ f, N - k = f + 1 := ⟨N - k - 1, by omega⟩
    rw [hf] at hinv
    obtain ⟨⟨v, at1, e1⟩, hv⟩ : ∃ s, nuS B 3 at0 e = s := ⟨_, rfl⟩
    rw [hv] at c1 f1
    simp only at f1
    have hw := hTx k (by omega)
    obtain ⟨w, hwd⟩ : ∃ w, w = TT.getD k 0 := ⟨_, rfl⟩
    have hinv2 : (e1 = 0 ∧ L ≤ 286 ∧ D ≤ 30 ∧ ((telT f (k + 1) (th.set w v)).bnd (K1 most F L D out)).run B at1 = r) ∨ (e1 ≠ 0 ∧ r = .no e1) := by
      rcases hinv with ⟨rfl, hL6, hD0, hrun⟩ | ⟨he, hr⟩
      · rw [telT, run_bnd, run_bnd, hrT hat] at hrun
        by_cases q : at0 + 3 ≤ 8 * b.length
        · rw [ok q] at hv
          simp only [Prod.mk.injEq] at hv
          obtain ⟨rfl, rfl, rfl⟩ := hv
          rw [if_pos q] at hrun
          rw [hwd, hTT]
          exact .inl ⟨rfl, hL6, hD0, by rw [run_bnd]; exact hrun⟩
        · rw [no q] at hv
          simp only [Prod.mk.injEq] at hv
          obtain ⟨rfl, rfl, rfl⟩ := hv
          rw [if_neg q] at hrun
          exact .inr ⟨by omega, hrun.symm⟩
      · rw [ke he] at hv
        simp only [Prod.mk.injEq] at hv
        obtain ⟨rfl, rfl, rfl⟩ := hv
        exact .inr ⟨he, hr⟩
    rw [← hwd] at hw
    have hsp := splice_nA (l := th) (k := w) (x := v) (by omega)
    repeat (first | refine wA ?_ | refine wB ?_ | refine wC rfl ?_ | refine wD rfl ?_ | refine wE ?_ | refine wF (by omega) ?_ | ((first | refine wG ?_ | refine wH ?_ | refine wI ?_ | refine wJ ?_ | refine wK ?_ | refine wL ?_); simp (disch := omega) only [wP, wZ, undef, seval, if_pos, if_neg, aStore, frz, AV.flat, ↓reduceIte, ne_eq, reduceCtorEq, ByteArray.size, stR, iR, ← hwd]))
    refine goC_h [(1000, 0), (1001, 0)] 6000 c1 (by simp) (by simp) ?_ ?_ ?_
    iterate 2 (case _ => simp (disch := omega) only [wP, wZ, undef, seval, if_pos, if_neg, aStore, frz, AV.flat, ↓reduceIte, ne_eq, reduceCtorEq, ByteArray.size, stI, stR, iR, cdA])
    repeat (first | refine wA ?_ | refine wB ?_ | refine wC rfl ?_ | refine wD rfl ?_ | refine wE ?_ | refine wF (by omega) ?_ | ((first | refine wG ?_ | refine wH ?_ | refine wI ?_ | refine wJ ?_ | refine wK ?_ | refine wL ?_); simp (disch := omega) only [wP, wZ, undef, seval, if_pos, if_neg, aStore, frz, AV.flat, ↓reduceIte, ne_eq, reduceCtorEq, ByteArray.size, stO, stR, iR, ← hwd, hTl, hthl]))
    refine At.of (k + 1, th.set w v, at1, e1) ⟨by simp only; omega, by simp only [List.length_set]; exact hthl, ?_, f1.2, by simp only; rw [show N - (k + 1) = f by omega]; exact hinv2⟩ (by simp only; omega) rfl rfl ?_ ?_ ?_
    · intro y hy
      rcases List.mem_or_eq_of_mem_set hy with hy | rfl
      · exact hth7 y hy
      · omega
    · simp only; omega
    iterate 2 (case _ => simp (disch := omega) only [wP, wZ, undef, seval, if_pos, if_neg, aStore, frz, AV.flat, ↓reduceIte, ne_eq, reduceCtorEq, ByteArray.size, stR, iR, hsp])
  simp only [decide_eq_false_iff_not] at h
  obtain rfl : k = N := by omega
  rw [Nat.sub_self] at hinv
  simp only [telT, BT.bnd] at hinv
  have hFull := ref_Full_n false th (fun x hx => by have := hth7 x hx; omega) (by omega)
  have cb := rf_bad_h nb B most at0 e out (!fulN th) 3
  obtain ⟨e5, he5⟩ : ∃ e5, e5 = if (!fulN th) = true ∧ e = 0 then 3 else e := ⟨_, rfl⟩
  rw [← he5] at cb
  have hinv3 : (e5 = 0 ∧ fulN th = true ∧ L ≤ 286 ∧ D ≤ 30 ∧ ((lsT th (L + D) 400 []).bnd (K2 most F L out)).run B at0 = r) ∨ (e5 ≠ 0 ∧ r = .no e5) := by
    rcases hinv with ⟨rfl, hL6, hD0, hrun⟩ | ⟨he, hr⟩
    · cases hfu : fulN th with
      | true =>
        rw [K1, if_pos hfu] at hrun
        rw [hfu, if_neg (by simp)] at he5
        exact .inl ⟨he5, rfl, hL6, hD0, hrun⟩
      | false =>
        rw [K1, if_neg (by rw [hfu]; simp)] at hrun
        rw [hfu, if_pos ⟨rfl, rfl⟩] at he5
        exact .inr ⟨by omega, by rw [he5]; exact hrun.symm⟩
    · rw [if_neg (fun q => he q.2)] at he5
      exact .inr ⟨by omega, by rw [he5]; exact hr⟩
  obtain ⟨ff, hff⟩ : ∃ ff, ff = fulN th := ⟨_, rfl⟩
  rw [← hff] at hFull cb hinv3
  clear he5 hinv
  have htk : th.take 19 = th := List.take_of_length_le (by omega)
  have hfr : AV.free.freeL [.sl false none (th.map nA)] = true := by simp only [AV.free, AV.free.freeL, free_nA, Bool.and_self]
  iterate 1 (first | refine wA ?_ | refine wB ?_ | refine wC rfl ?_ | refine wD rfl ?_ | refine wE ?_ | refine wF (by omega) ?_ | ((first | refine wG ?_ | refine wH ?_ | refine wI ?_ | refine wJ ?_ | refine wK ?_ | refine wL ?_); simp (disch := omega) only [wP, wZ, undef, seval, if_pos, if_neg, aStore, frz, AV.flat, ↓reduceIte, ne_eq, reduceCtorEq, ByteArray.size]))
  refine SWp.to (F := mk 190 (30 + k) [(0, .op 1000 0 0), (2, int (L : Int)), (3, int (D : Int)), (6, .own 4005 28 none 0 19)] [(1000, 0, .row false (stR nb B most 0 out.length at0 e5)), (1001, 0, .row (nl0 out.length) (out.map u8)), (4005, 28, .row false (th.map nA))]) ?_ ?_
  · repeat (first | refine wA ?_ | refine wB ?_ | refine wC rfl ?_ | refine wD rfl ?_ | refine wE ?_ | refine wF (by omega) ?_ | ((first | refine wG ?_ | refine wH ?_ | refine wI ?_ | refine wJ ?_ | refine wK ?_ | refine wL ?_); simp (disch := omega) only [wP, wZ, undef, seval, if_pos, if_neg, aStore, frz, AV.flat, ↓reduceIte, ne_eq, reduceCtorEq, ByteArray.size]))
    refine goC_p (boo ff) (.inr ⟨rfl, ?_, ?_⟩) ?_
    · simp (disch := omega) only [wP, wZ, undef, seval, if_pos, if_neg, aStore, frz, AV.flat, ↓reduceIte, ne_eq, reduceCtorEq, ByteArray.size, iR, hthl, htk]
    · simp (disch := omega) only [wP, wZ, undef, seval, if_pos, if_neg, aStore, frz, AV.flat, ↓reduceIte, ne_eq, reduceCtorEq, ByteArray.size, iR, hthl, htk]
      exact hFull
    repeat (first | refine wA ?_ | refine wB ?_ | refine wC rfl ?_ | refine wD rfl ?_ | refine wE ?_ | refine wF (by omega) ?_ | ((first | refine wG ?_ | refine wH ?_ | refine wI ?_ | refine wJ ?_ | refine wK ?_ | refine wL ?_); simp (disch := omega) only [wP, wZ, undef, seval, if_pos, if_neg, aStore, frz, AV.flat, ↓reduceIte, ne_eq, reduceCtorEq, ByteArray.size, stR, iR]))
    refine goC_h [(1000, 0), (1001, 0)] 7000 cb (by simp) (by simp) ?_ ?_ ?_
    iterate 2 (case _ => simp (disch := omega) only [wP, wZ, undef, seval, if_pos, if_neg, aStore, frz, AV.flat, ↓reduceIte, ne_eq, reduceCtorEq, ByteArray.size, stI, stR, iR, cdA])
    simp (disch := omega) only [wP, wZ, undef, seval, if_pos, if_neg, aStore, frz, AV.flat, ↓reduceIte, ne_eq, reduceCtorEq, ByteArray.size, stO, stR, iR]
    exact le_mk rfl (by simp only; omega) (by simp (disch := omega) only [wP, wZ, undef, seval, if_pos, if_neg, aStore, frz, AV.flat, ↓reduceIte, ne_eq, reduceCtorEq, ByteArray.size]) (by simp (disch := omega) only [wP, wZ, undef, seval, if_pos, if_neg, aStore, frz, AV.flat, ↓reduceIte, ne_eq, reduceCtorEq, ByteArray.size, stR, iR])
  rcases hinv3 with ⟨rfl, rfl, hL6, hD0, hrun⟩ | ⟨he, rfl⟩
  · have hfu : fulN th = true := hff.symm
    have hK : kraft th ≤ 32768 := by simp only [fulN, decide_eq_true_eq] at hfu; omega
    have h15 : ∀ x ∈ th, x ≤ 15 := fun x hx => by have := hth7 x hx; omega
    have cm := rf_made_c false th h15 (by omega) hK
    obtain ⟨em, hem⟩ : ∃ em, em = th.isEmpty := ⟨_, rfl⟩
    rw [← hem] at cm
    have hk19 : k ≤ 19 := by omega
    have hadd : (L : Int) + (D : Int) = ((L + D : Nat) : Int) := by omega
    obtain ⟨N, hN2⟩ : ∃ N, N = L + D := ⟨_, rfl⟩
    rw [← hN2] at hadd hrun
    repeat (first | refine wA ?_ | refine wB ?_ | refine wC rfl ?_ | refine wD rfl ?_ | refine wE ?_ | refine wF (by omega) ?_ | ((first | refine wG ?_ | refine wH ?_ | refine wI ?_ | refine wJ ?_ | refine wK ?_ | refine wL ?_); simp (disch := omega) only [wP, wZ, undef, seval, if_pos, if_neg, aStore, frz, AV.flat, ↓reduceIte, ne_eq, reduceCtorEq, ByteArray.size, stR, iR]))
    refine goC_f 4005 28 (nl := false) (cells := th.map nA) [.sl false none (th.map nA)] _ (by simp (disch := omega) only [wP, wZ, undef, seval, if_pos, if_neg, aStore, frz, AV.flat, ↓reduceIte, ne_eq, reduceCtorEq, ByteArray.size]) free_nA ?_ hfr cm ?_
    · simp (disch := omega) only [wP, wZ, undef, seval, if_pos, if_neg, aStore, frz, AV.flat, ↓reduceIte, ne_eq, reduceCtorEq, ByteArray.size, fR, iR, hthl, htk]
    repeat (first | refine wA ?_ | refine wB ?_ | refine wC rfl ?_ | refine wD rfl ?_ | refine wE ?_ | refine wF (by omega) ?_ | ((first | refine wG ?_ | refine wH ?_ | refine wI ?_ | refine wJ ?_ | refine wK ?_ | refine wL ?_); simp (disch := omega) only [wP, wZ, undef, seval, if_pos, if_neg, aStore, frz, AV.flat, ↓reduceIte, ne_eq, reduceCtorEq, ByteArray.size, cdA, iR]))
    refine SWp.adopt 9 none (by simp (disch := omega) only [wP, wZ, undef, seval, if_pos, if_neg, aStore, frz, AV.flat, ↓reduceIte, ne_eq, reduceCtorEq, ByteArray.size]) ?_
    refine SWp.loop (α := Nat × List Nat × Nat × Nat × Nat × Nat) (fun x => mk 190 x.2.2.2.2.2 [(0, .op 1000 0 0), (2, int (L : Int)), (3, int (D : Int)), (8, .op 8 (30 + k) 0), (9, .own 9 x.2.2.2.2.1 none 0 x.2.1.length)] [(1000, 0, .row false (stR nb B most 0 out.length x.2.2.1 x.2.2.2.1)), (1001, 0, .row (nl0 out.length) (out.map u8)), (8, 30 + k, .row false [.sl false none (th.map nA), .sl em none ((codesL th).map nA)]), (9, x.2.2.2.2.1, .row (nl0 x.2.1.length) (x.2.1.map nA))])
      (fun x => x.2.2.2.2.2 + 1000 * x.1 ≤ 400000 + 100 ∧ x.2.1.length ≤ 1000 ∧ ((x.2.2.2.1 = 0 ∧ ((lsT th N x.1 x.2.1).bnd (K2 most F L out)).run B x.2.2.1 = r ∧ x.2.2.1 ≤ 8 * b.length ∧ x.2.1.length ≤ N ∧ N - x.2.1.length < x.1 ∧ ∀ y ∈ x.2.1, y ≤ 15) ∨ (x.2.2.2.1 ≠ 0 ∧ r = .no x.2.2.2.1)))
      (fun x => x.1 + (if x.2.2.2.1 = 0 then 1 else 0)) (400, [], at0, 0, 31 + k, 32 + k) ⟨by simp only; omega, Nat.zero_le _, .inl ⟨rfl, hrun, hat, Nat.zero_le _, by simp only [List.length_nil]; omega, by simp⟩⟩ (le_mk rfl ?_ ?_ ?_) ?_
    · simp only; omega
    · simp (disch := omega) only [wP, wZ, undef, seval, if_pos, if_neg, aStore, frz, AV.flat, ↓reduceIte, ne_eq, reduceCtorEq, ByteArray.size]
      try omega
    · simp (disch := omega) only [wP, wZ, undef, seval, if_pos, if_neg, aStore, frz, AV.flat, ↓reduceIte, ne_eq, reduceCtorEq, ByteArray.size, stR, iR, nl0_zero]
      try omega
    clear hrun cb hFull
    rintro ⟨f, lens, at2, e, g, c⟩ ⟨hc, hl1000, hx⟩ -
    simp only at hc hl1000 hx
    rcases hx with ⟨rfl, hrun, hat2, hln, hfu2, hl15⟩ | ⟨he, rfl⟩
    · by_cases clt : lens.length < N
      · have dlt : decide ((lens.length : Int) < ((N : Nat) : Int)) = true := decide_eq_true (by omega)
        obtain ⟨f, rfl⟩ : ∃ f', f = f' + 1 := ⟨f - 1, by omega⟩
        rw [lsT, if_neg (by omega), run_bnd, run_bnd, syS_run] at hrun
        have hS := rf_symbol_h nb B (by omega) hB2 most at2 0 (by omega) out false em th (by omega) h15 hK
        obtain ⟨hs320, hpq, hqB, hq0, he10⟩ := syS_facts (by omega : th.length ≤ 320) (l := th) (B := B) (i := at2) (by omega)
        have hs19 : (syS th B at2 0).1 < 19 := by
          have hsy := nxt_sym (l := th) (B := B.drop at2) 15 0 0
          unfold syS
          rw [if_neg (by simp)]
          split
          · rename_i q; have := (hsy q).1; simp only; omega
          · simp only; omega
        have hs0 : (syS th B at2 0).2.2 ≠ 0 → (syS th B at2 0).1 = 0 := fun q => by
          unfold syS at q ⊢
          rw [if_neg (by simp)] at q ⊢
          split
          · rename_i q2; rw [if_pos q2] at q; exact absurd rfl q
          · rfl
        obtain ⟨⟨x, p1, e1⟩, hxs⟩ : ∃ s, s = syS th B at2 0 := ⟨_, rfl⟩
        rw [← hxs] at hS hrun hs320 hpq hqB hq0 he10 hs19 hs0
        simp only at hS hrun hs320 hpq hqB hq0 he10 hs19 hs0
        clear hxs
        by_cases ce : e1 = 0
        · subst ce
          rw [if_pos rfl] at hrun
          simp only [BR.bnd] at hrun
          by_cases c16 : x = 16 ∧ lens = []
          · obtain ⟨rfl, rfl⟩ := c16
            rw [if_pos ⟨rfl, rfl⟩] at hrun
            simp only [BT.run] at hrun
            subst hrun
            have dlN : decide (((N : Nat) : Int) < 3) = false := decide_eq_false (by omega)
            have dl0 : decide ((0 : Int) < ((N : Nat) : Int)) = true := decide_eq_true (by omega)
            have hb0 := rf_bad_h nb B most p1 0 out true 3
            rw [if_pos ⟨rfl, rfl⟩] at hb0
            have hcn := hNum p1 3 (by omega) out 2 (by omega)
            rw [ke (by omega)] at hcn
            have hbd := rf_bad_h nb B most p1 3 out false 3
            rw [if_neg (by simp)] at hbd
            have htm := rf_times_h 0 3 (by omega)
            have dl0' : decide (0 < N) = true := decide_eq_true (by omega)
            repeat (first | refine wA ?_ | refine wB ?_ | refine wC rfl ?_ | refine wD rfl ?_ | refine wE ?_ | refine wF (by omega) ?_ | ((first | refine wG ?_ | refine wH ?_ | refine wI ?_ | refine wJ ?_ | refine wK ?_ | refine wL ?_); simp (disch := omega) only [wP, wZ, undef, seval, if_pos, if_neg, aStore, frz, AV.flat, ↓reduceIte, ne_eq, reduceCtorEq, ByteArray.size, stR, iR, dl0, dl0', hadd]))
            refine goC_h [(1000, 0), (1001, 0)] 8000 hS (by simp) (by simp) ?_ ?_ ?_
            iterate 2 (case _ => simp (disch := omega) only [wP, wZ, undef, seval, if_pos, if_neg, aStore, frz, AV.flat, ↓reduceIte, ne_eq, reduceCtorEq, ByteArray.size, stI, stR, iR, cdA])
            repeat (first | refine wA ?_ | refine wB ?_ | refine wC rfl ?_ | refine wD rfl ?_ | refine wE ?_ | refine wF (by omega) ?_ | ((first | refine wG ?_ | refine wH ?_ | refine wI ?_ | refine wJ ?_ | refine wK ?_ | refine wL ?_); simp (disch := omega) only [wP, wZ, undef, seval, if_pos, if_neg, aStore, frz, AV.flat, ↓reduceIte, ne_eq, reduceCtorEq, ByteArray.size, stO, stR, iR]))
            refine goC_h [(1000, 0), (1001, 0)] 9000 hb0 (by simp) (by simp) ?_ ?_ ?_
            iterate 2 (case _ => simp (disch := omega) only [wP, wZ, undef, seval, if_pos, if_neg, aStore, frz, AV.flat, ↓reduceIte, ne_eq, reduceCtorEq, ByteArray.size, stI, stR, iR, cdA])
            repeat (first | refine wA ?_ | refine wB ?_ | refine wC rfl ?_ | refine wD rfl ?_ | refine wE ?_ | refine wF (by omega) ?_ | ((first | refine wG ?_ | refine wH ?_ | refine wI ?_ | refine wJ ?_ | refine wK ?_ | refine wL ?_); simp (disch := omega) only [wP, wZ, undef, seval, if_pos, if_neg, aStore, frz, AV.flat, ↓reduceIte, ne_eq, reduceCtorEq, ByteArray.size, stO, stR, iR]))
            refine goC_h [(1000, 0), (1001, 0)] 10000 hcn (by simp) (by simp) ?_ ?_ ?_
            iterate 2 (case _ => simp (disch := omega) only [wP, wZ, undef, seval, if_pos, if_neg, aStore, frz, AV.flat, ↓reduceIte, ne_eq, reduceCtorEq, ByteArray.size, stI, stR, iR, cdA])
            repeat (first | refine wA ?_ | refine wB ?_ | refine wC rfl ?_ | refine wD rfl ?_ | refine wE ?_ | refine wF (by omega) ?_ | ((first | refine wG ?_ | refine wH ?_ | refine wI ?_ | refine wJ ?_ | refine wK ?_ | refine wL ?_); simp (disch := omega) only [wP, wZ, undef, seval, if_pos, if_neg, aStore, frz, AV.flat, ↓reduceIte, ne_eq, reduceCtorEq, ByteArray.size, stO, stR, iR, hadd, dlN]))
            refine goC_h [(1000, 0), (1001, 0)] 11000 hbd (by simp) (by simp) ?_ ?_ ?_
            iterate 2 (case _ => simp (disch := omega) only [wP, wZ, undef, seval, if_pos, if_neg, aStore, frz, AV.flat, ↓reduceIte, ne_eq, reduceCtorEq, ByteArray.size, stI, stR, iR, cdA])
            repeat (first | refine wA ?_ | refine wB ?_ | refine wC rfl ?_ | refine wD rfl ?_ | refine wE ?_ | refine wF (by omega) ?_ | ((first | refine wG ?_ | refine wH ?_ | refine wI ?_ | refine wJ ?_ | refine wK ?_ | refine wL ?_); simp (disch := omega) only [wP, wZ, undef, seval, if_pos, if_neg, aStore, frz, AV.flat, ↓reduceIte, ne_eq, reduceCtorEq, ByteArray.size, stO, stR, iR]))
            refine goC_h [] 12000 htm (by simp) (by simp) ?_ ?_ ?_
            iterate 2 (case _ => simp (disch := omega) only [wP, wZ, undef, seval, if_pos, if_neg, aStore, frz, AV.flat, ↓reduceIte, ne_eq, reduceCtorEq, ByteArray.size])
            repeat (first | refine wA ?_ | refine wB ?_ | refine wC rfl ?_ | refine wD rfl ?_ | refine wE ?_ | refine wF (by omega) ?_ | ((first | refine wG ?_ | refine wH ?_ | refine wI ?_ | refine wJ ?_ | refine wK ?_ | refine wL ?_); simp (disch := omega) only [wP, wZ, undef, seval, if_pos, if_neg, aStore, frz, AV.flat, ↓reduceIte, ne_eq, reduceCtorEq, ByteArray.size, stO, stR, iR, nl0_zero]))
            try refine ⟨⟨by simp, by simp, by simp⟩, ?_⟩
            refine At.of (f, [0, 0, 0], p1, 3, c + 14, c + 15) ⟨by simp only; omega, by simp, .inr ⟨by simp, rfl⟩⟩ (by simp <;> omega) rfl rfl ?_ ?_ ?_
            · simp only; omega
            · simp (disch := omega) only [wP, wZ, undef, seval, if_pos, if_neg, aStore, frz, AV.flat, ↓reduceIte, ne_eq, reduceCtorEq, ByteArray.size]
              try rfl
            · simp (disch := omega) only [wP, wZ, undef, seval, if_pos, if_neg, aStore, frz, AV.flat, ↓reduceIte, ne_eq, reduceCtorEq, ByteArray.size, stR, iR]
              try first | exact ⟨rfl, rfl⟩ | rfl
          · have hplus := nuS_run (B := B) (n := lsB x) (i := p1) hqB
            have hfk := fact (n := lsB x) (i := p1) (e := 0) (by unfold lsB; split <;> (try split) <;> (try split) <;> omega) (by omega)
            have hpl : (plusT (lsN x) (lsB x)).run B p1 = if (nuS B (lsB x) p1 0).2.2 = 0 then .ok (lsN x + (nuS B (lsB x) p1 0).1) (nuS B (lsB x) p1 0).2.1 else .no (nuS B (lsB x) p1 0).2.2 := by
              rw [plusT, run_bnd, hplus]
              split <;> rfl
            have hB7 : lsB x ≤ 7 := by unfold lsB; split <;> (try split) <;> (try split) <;> omega
            have hN3 : 1 ≤ lsN x ∧ lsN x ≤ 11 := by unfold lsN; split <;> (try split) <;> omega
            have hp7 : 2 ^ lsB x ≤ 128 := two_pow_le (n := lsB x) (m := 7) hB7
            have hcn := hNum p1 0 (by omega) out (lsB x) (by omega)
            have hy15 := lsV_le (s := x) (lens := lens) hs19 c16 hl15
            obtain ⟨⟨v, p2, e2⟩, hv⟩ : ∃ s, s = nuS B (lsB x) p1 0 := ⟨_, rfl⟩
            rw [← hv] at hpl hfk hcn
            simp only at hpl hfk hcn
            obtain ⟨n, hn⟩ : ∃ n, n = lsN x + v := ⟨_, rfl⟩
            have en : (lsN x : Int) + (v : Int) = (n : Int) := by omega
            rw [← hn] at hpl
            have hn1 : 1 ≤ n ∧ n ≤ 139 := by omega
            obtain ⟨y, hy⟩ : ∃ y, y = lsV x lens := ⟨_, rfl⟩
            have hbd := rf_bad_h nb B most p2 e2 out (decide (N < lens.length + n)) 3
            obtain ⟨e3, he3⟩ : ∃ e3, e3 = if N < lens.length + n ∧ e2 = 0 then 3 else e2 := ⟨_, rfl⟩
            have hee : (if decide (N < lens.length + n) = true ∧ e2 = 0 then 3 else e2) = e3 := by rw [he3]; simp only [decide_eq_true_eq]
            rw [hee] at hbd
            have hst := ls_step c16 hy hpl he3 hrun
            have hdd : decide (((N : Nat) : Int) - (lens.length : Int) < (n : Int)) = decide (N < lens.length + n) := decide_eq_decide.2 (by omega)
            obtain ⟨bd, hbdd⟩ : ∃ bd, bd = decide (N < lens.length + n) := ⟨_, rfl⟩
            rw [← hbdd] at hbd hdd
            have htm := rf_times_h y n (by omega)
            have hX15 := rep_app (lens := lens) (n := n) (y := y) (by rw [hy]; exact hy15) hl15
            have hn0 : nl0 n = false := nl0_pos (by omega)
            have hXl : (List.replicate n y).length = n := List.length_replicate
            have hXe : ((List.replicate n y).map nA).isEmpty = false := by
              obtain ⟨m, rfl⟩ : ∃ m, n = m + 1 := ⟨n - 1, by omega⟩
              rfl
            have hXt : ((List.replicate n y).map nA).take n = (List.replicate n y).map nA := List.take_of_length_le (by simp)
            have hXt2 : (List.replicate n y).take n = List.replicate n y := List.take_of_length_le (by simp)
            obtain ⟨X, hX⟩ : ∃ X, X = List.replicate n y := ⟨_, rfl⟩
            rw [hn0] at htm
            rw [← hX] at htm hX15 hXl hXe hXt hXt2 hst
            have hla : (lens ++ X).length = lens.length + n := by rw [List.length_append, hXl]
            have hn1' : nl0 (lens.length + n) = false := nl0_add (by omega)
            clear hrun he3 hee hbdd hpl hplus
            have hfin : ((e3 = 0 ∧ ((lsT th N f (lens ++ X)).bnd (K2 most F L out)).run B p2 = r ∧ p2 ≤ 8 * b.length ∧ (lens ++ X).length ≤ N ∧ N - (lens ++ X).length < f ∧ ∀ y ∈ lens ++ X, y ≤ 15) ∨ (e3 ≠ 0 ∧ r = .no e3)) := by
              rcases hst with ⟨q1, q2, q3⟩ | q
              · exact .inl ⟨q1, q2, hfk.2, by omega, by omega, hX15⟩
              · exact .inr q
            have hmu : f + (if e3 = 0 then 1 else 0) < f + 1 + (if (0 : Nat) = 0 then 1 else 0) := by
              split <;> simp <;> omega
            by_cases e16 : x = 16
            · subst e16
              have hl0 : 0 < lens.length := List.length_pos_iff.2 fun h => c16 ⟨rfl, h⟩
              have dl : decide ((lens.length : Int) = 0) = false := decide_eq_false (by omega)
              have dl2 : decide ((0 : Int) < (lens.length : Int)) = true := decide_eq_true (by omega)
              have hb0 := rf_bad_h nb B most p1 0 out false 3
              rw [if_neg (by simp)] at hb0
              rw [show lsB 16 = 2 from rfl] at hcn
              rw [show lsN 16 = 3 from rfl] at en
              have en : (3 : Int) + (v : Int) = (n : Int) := en
              obtain ⟨z, hz⟩ : ∃ z, z = lens.length - 1 := ⟨_, rfl⟩
              have ez : (lens.length : Int) - 1 = (z : Int) := by omega
              have hyz : lens.getD z 0 = y := by rw [hy, hz]; rfl
              repeat (first | refine wA ?_ | refine wB ?_ | refine wC rfl ?_ | refine wD rfl ?_ | refine wE ?_ | refine wF (by omega) ?_ | ((first | refine wG ?_ | refine wH ?_ | refine wI ?_ | refine wJ ?_ | refine wK ?_ | refine wL ?_); simp (disch := omega) only [wP, wZ, undef, seval, if_pos, if_neg, aStore, frz, AV.flat, ↓reduceIte, ne_eq, reduceCtorEq, ByteArray.size, stR, iR, dlt, hadd]))
              refine goC_h [(1000, 0), (1001, 0)] 8000 hS (by simp) (by simp) ?_ ?_ ?_
              iterate 2 (case _ => simp (disch := omega) only [wP, wZ, undef, seval, if_pos, if_neg, aStore, frz, AV.flat, ↓reduceIte, ne_eq, reduceCtorEq, ByteArray.size, stI, stR, iR, cdA])
              repeat (first | refine wA ?_ | refine wB ?_ | refine wC rfl ?_ | refine wD rfl ?_ | refine wE ?_ | refine wF (by omega) ?_ | ((first | refine wG ?_ | refine wH ?_ | refine wI ?_ | refine wJ ?_ | refine wK ?_ | refine wL ?_); simp (disch := omega) only [wP, wZ, undef, seval, if_pos, if_neg, aStore, frz, AV.flat, ↓reduceIte, ne_eq, reduceCtorEq, ByteArray.size, stO, stR, iR, dl]))
              refine goC_h [(1000, 0), (1001, 0)] 9000 hb0 (by simp) (by simp) ?_ ?_ ?_
              iterate 2 (case _ => simp (disch := omega) only [wP, wZ, undef, seval, if_pos, if_neg, aStore, frz, AV.flat, ↓reduceIte, ne_eq, reduceCtorEq, ByteArray.size, stI, stR, iR, cdA])
              repeat (first | refine wA ?_ | refine wB ?_ | refine wC rfl ?_ | refine wD rfl ?_ | refine wE ?_ | refine wF (by omega) ?_ | ((first | refine wG ?_ | refine wH ?_ | refine wI ?_ | refine wJ ?_ | refine wK ?_ | refine wL ?_); simp (disch := omega) only [wP, wZ, undef, seval, if_pos, if_neg, aStore, frz, AV.flat, ↓reduceIte, ne_eq, reduceCtorEq, ByteArray.size, stO, stR, iR, dl2, ez, hyz]))
              refine goC_h [(1000, 0), (1001, 0)] 10000 hcn (by simp) (by simp) ?_ ?_ ?_
              iterate 2 (case _ => simp (disch := omega) only [wP, wZ, undef, seval, if_pos, if_neg, aStore, frz, AV.flat, ↓reduceIte, ne_eq, reduceCtorEq, ByteArray.size, stI, stR, iR, cdA])
              repeat (first | refine wA ?_ | refine wB ?_ | refine wC rfl ?_ | refine wD rfl ?_ | refine wE ?_ | refine wF (by omega) ?_ | ((first | refine wG ?_ | refine wH ?_ | refine wI ?_ | refine wJ ?_ | refine wK ?_ | refine wL ?_); simp (disch := omega) only [wP, wZ, undef, seval, if_pos, if_neg, aStore, frz, AV.flat, ↓reduceIte, ne_eq, reduceCtorEq, ByteArray.size, stO, stR, iR, hadd, en, hdd]))
              refine goC_h [(1000, 0), (1001, 0)] 11000 hbd (by simp) (by simp) ?_ ?_ ?_
              iterate 2 (case _ => simp (disch := omega) only [wP, wZ, undef, seval, if_pos, if_neg, aStore, frz, AV.flat, ↓reduceIte, ne_eq, reduceCtorEq, ByteArray.size, stI, stR, iR, cdA])
              repeat (first | refine wA ?_ | refine wB ?_ | refine wC rfl ?_ | refine wD rfl ?_ | refine wE ?_ | refine wF (by omega) ?_ | ((first | refine wG ?_ | refine wH ?_ | refine wI ?_ | refine wJ ?_ | refine wK ?_ | refine wL ?_); simp (disch := omega) only [wP, wZ, undef, seval, if_pos, if_neg, aStore, frz, AV.flat, ↓reduceIte, ne_eq, reduceCtorEq, ByteArray.size, stO, stR, iR]))
              refine goC_h [] 12000 htm (by simp) (by simp) ?_ ?_ ?_
              iterate 2 (case _ => simp (disch := omega) only [wP, wZ, undef, seval, if_pos, if_neg, aStore, frz, AV.flat, ↓reduceIte, ne_eq, reduceCtorEq, ByteArray.size])
              repeat (first | refine wA ?_ | refine wB ?_ | refine wC rfl ?_ | refine wD rfl ?_ | refine wE ?_ | refine wF (by omega) ?_ | ((first | refine wG ?_ | refine wH ?_ | refine wI ?_ | refine wJ ?_ | refine wK ?_ | refine wL ?_); simp (disch := omega) only [wP, wZ, undef, seval, if_pos, if_neg, aStore, frz, AV.flat, ↓reduceIte, ne_eq, reduceCtorEq, ByteArray.size, stO, stR, iR, hXl, hXe, hXt, hXt2, Bool.and_false]))
              refine At.of (f, lens ++ X, p2, e3, c + n + 11, c + n + 11 + 1) ⟨by simp only; omega, by simp only; omega, hfin⟩ hmu rfl rfl ?_ ?_ ?_
              · simp only; omega
              · simp (disch := omega) only [wP, wZ, undef, seval, if_pos, if_neg, aStore, frz, AV.flat, ↓reduceIte, ne_eq, reduceCtorEq, ByteArray.size, hXl]
                try omega
              · simp (disch := omega) only [wP, wZ, undef, seval, if_pos, if_neg, aStore, frz, AV.flat, ↓reduceIte, ne_eq, reduceCtorEq, ByteArray.size, stR, iR, hXl, hn1']
                try omega
            have d16 : decide ((x : Int) = 16) = false := decide_eq_false (by omega)
            by_cases e17 : x = 17
            · subst e17
              rw [show lsB 17 = 3 from rfl] at hcn
              rw [show lsN 17 = 3 from rfl] at en
              have en : (3 : Int) + (v : Int) = (n : Int) := en
              obtain rfl : y = 0 := hy
              repeat (first | refine wA ?_ | refine wB ?_ | refine wC rfl ?_ | refine wD rfl ?_ | refine wE ?_ | refine wF (by omega) ?_ | ((first | refine wG ?_ | refine wH ?_ | refine wI ?_ | refine wJ ?_ | refine wK ?_ | refine wL ?_); simp (disch := omega) only [wP, wZ, undef, seval, if_pos, if_neg, aStore, frz, AV.flat, ↓reduceIte, ne_eq, reduceCtorEq, ByteArray.size, stR, iR, dlt, hadd]))
              refine goC_h [(1000, 0), (1001, 0)] 8000 hS (by simp) (by simp) ?_ ?_ ?_
              iterate 2 (case _ => simp (disch := omega) only [wP, wZ, undef, seval, if_pos, if_neg, aStore, frz, AV.flat, ↓reduceIte, ne_eq, reduceCtorEq, ByteArray.size, stI, stR, iR, cdA])
              repeat (first | refine wA ?_ | refine wB ?_ | refine wC rfl ?_ | refine wD rfl ?_ | refine wE ?_ | refine wF (by omega) ?_ | ((first | refine wG ?_ | refine wH ?_ | refine wI ?_ | refine wJ ?_ | refine wK ?_ | refine wL ?_); simp (disch := omega) only [wP, wZ, undef, seval, if_pos, if_neg, aStore, frz, AV.flat, ↓reduceIte, ne_eq, reduceCtorEq, ByteArray.size, stO, stR, iR]))
              refine goC_h [(1000, 0), (1001, 0)] 10000 hcn (by simp) (by simp) ?_ ?_ ?_
              iterate 2 (case _ => simp (disch := omega) only [wP, wZ, undef, seval, if_pos, if_neg, aStore, frz, AV.flat, ↓reduceIte, ne_eq, reduceCtorEq, ByteArray.size, stI, stR, iR, cdA])
              repeat (first | refine wA ?_ | refine wB ?_ | refine wC rfl ?_ | refine wD rfl ?_ | refine wE ?_ | refine wF (by omega) ?_ | ((first | refine wG ?_ | refine wH ?_ | refine wI ?_ | refine wJ ?_ | refine wK ?_ | refine wL ?_); simp (disch := omega) only [wP, wZ, undef, seval, if_pos, if_neg, aStore, frz, AV.flat, ↓reduceIte, ne_eq, reduceCtorEq, ByteArray.size, stO, stR, iR, hadd, en, hdd]))
              refine goC_h [(1000, 0), (1001, 0)] 11000 hbd (by simp) (by simp) ?_ ?_ ?_
              iterate 2 (case _ => simp (disch := omega) only [wP, wZ, undef, seval, if_pos, if_neg, aStore, frz, AV.flat, ↓reduceIte, ne_eq, reduceCtorEq, ByteArray.size, stI, stR, iR, cdA])
              repeat (first | refine wA ?_ | refine wB ?_ | refine wC rfl ?_ | refine wD rfl ?_ | refine wE ?_ | refine wF (by omega) ?_ | ((first | refine wG ?_ | refine wH ?_ | refine wI ?_ | refine wJ ?_ | refine wK ?_ | refine wL ?_); simp (disch := omega) only [wP, wZ, undef, seval, if_pos, if_neg, aStore, frz, AV.flat, ↓reduceIte, ne_eq, reduceCtorEq, ByteArray.size, stO, stR, iR]))
              refine goC_h [] 12000 htm (by simp) (by simp) ?_ ?_ ?_
              iterate 2 (case _ => simp (disch := omega) only [wP, wZ, undef, seval, if_pos, if_neg, aStore, frz, AV.flat, ↓reduceIte, ne_eq, reduceCtorEq, ByteArray.size])
              repeat (first | refine wA ?_ | refine wB ?_ | refine wC rfl ?_ | refine wD rfl ?_ | refine wE ?_ | refine wF (by omega) ?_ | ((first | refine wG ?_ | refine wH ?_ | refine wI ?_ | refine wJ ?_ | refine wK ?_ | refine wL ?_); simp (disch := omega) only [wP, wZ, undef, seval, if_pos, if_neg, aStore, frz, AV.flat, ↓reduceIte, ne_eq, reduceCtorEq, ByteArray.size, stO, stR, iR, hXl, hXe, hXt, hXt2, Bool.and_false]))
              refine At.of (f, lens ++ X, p2, e3, c + n + 10, c + n + 10 + 1) ⟨by simp only; omega, by simp only; omega, hfin⟩ hmu rfl rfl ?_ ?_ ?_
              · simp only; omega
              · simp (disch := omega) only [wP, wZ, undef, seval, if_pos, if_neg, aStore, frz, AV.flat, ↓reduceIte, ne_eq, reduceCtorEq, ByteArray.size, hXl]
                try omega
              · simp (disch := omega) only [wP, wZ, undef, seval, if_pos, if_neg, aStore, frz, AV.flat, ↓reduceIte, ne_eq, reduceCtorEq, ByteArray.size, stR, iR, hXl, hn1']
                try omega
            have d17 : decide ((x : Int) = 17) = false := decide_eq_false (by omega)
            by_cases e18 : x = 18
            · subst e18
              rw [show lsB 18 = 7 from rfl] at hcn
              rw [show lsN 18 = 11 from rfl] at en
              have en : (11 : Int) + (v : Int) = (n : Int) := en
              obtain rfl : y = 0 := hy
              repeat (first | refine wA ?_ | refine wB ?_ | refine wC rfl ?_ | refine wD rfl ?_ | refine wE ?_ | refine wF (by omega) ?_ | ((first | refine wG ?_ | refine wH ?_ | refine wI ?_ | refine wJ ?_ | refine wK ?_ | refine wL ?_); simp (disch := omega) only [wP, wZ, undef, seval, if_pos, if_neg, aStore, frz, AV.flat, ↓reduceIte, ne_eq, reduceCtorEq, ByteArray.size, stR, iR, dlt, hadd]))
              refine goC_h [(1000, 0), (1001, 0)] 8000 hS (by simp) (by simp) ?_ ?_ ?_
              iterate 2 (case _ => simp (disch := omega) only [wP, wZ, undef, seval, if_pos, if_neg, aStore, frz, AV.flat, ↓reduceIte, ne_eq, reduceCtorEq, ByteArray.size, stI, stR, iR, cdA])
              repeat (first | refine wA ?_ | refine wB ?_ | refine wC rfl ?_ | refine wD rfl ?_ | refine wE ?_ | refine wF (by omega) ?_ | ((first | refine wG ?_ | refine wH ?_ | refine wI ?_ | refine wJ ?_ | refine wK ?_ | refine wL ?_); simp (disch := omega) only [wP, wZ, undef, seval, if_pos, if_neg, aStore, frz, AV.flat, ↓reduceIte, ne_eq, reduceCtorEq, ByteArray.size, stO, stR, iR]))
              refine goC_h [(1000, 0), (1001, 0)] 10000 hcn (by simp) (by simp) ?_ ?_ ?_
              iterate 2 (case _ => simp (disch := omega) only [wP, wZ, undef, seval, if_pos, if_neg, aStore, frz, AV.flat, ↓reduceIte, ne_eq, reduceCtorEq, ByteArray.size, stI, stR, iR, cdA])
              repeat (first | refine wA ?_ | refine wB ?_ | refine wC rfl ?_ | refine wD rfl ?_ | refine wE ?_ | refine wF (by omega) ?_ | ((first | refine wG ?_ | refine wH ?_ | refine wI ?_ | refine wJ ?_ | refine wK ?_ | refine wL ?_); simp (disch := omega) only [wP, wZ, undef, seval, if_pos, if_neg, aStore, frz, AV.flat, ↓reduceIte, ne_eq, reduceCtorEq, ByteArray.size, stO, stR, iR, hadd, en, hdd]))
              refine goC_h [(1000, 0), (1001, 0)] 11000 hbd (by simp) (by simp) ?_ ?_ ?_
              iterate 2 (case _ => simp (disch := omega) only [wP, wZ, undef, seval, if_pos, if_neg, aStore, frz, AV.flat, ↓reduceIte, ne_eq, reduceCtorEq, ByteArray.size, stI, stR, iR, cdA])
              repeat (first | refine wA ?_ | refine wB ?_ | refine wC rfl ?_ | refine wD rfl ?_ | refine wE ?_ | refine wF (by omega) ?_ | ((first | refine wG ?_ | refine wH ?_ | refine wI ?_ | refine wJ ?_ | refine wK ?_ | refine wL ?_); simp (disch := omega) only [wP, wZ, undef, seval, if_pos, if_neg, aStore, frz, AV.flat, ↓reduceIte, ne_eq, reduceCtorEq, ByteArray.size, stO, stR, iR]))
              refine goC_h [] 12000 htm (by simp) (by simp) ?_ ?_ ?_
              iterate 2 (case _ => simp (disch := omega) only [wP, wZ, undef, seval, if_pos, if_neg, aStore, frz, AV.flat, ↓reduceIte, ne_eq, reduceCtorEq, ByteArray.size])
              repeat (first | refine wA ?_ | refine wB ?_ | refine wC rfl ?_ | refine wD rfl ?_ | refine wE ?_ | refine wF (by omega) ?_ | ((first | refine wG ?_ | refine wH ?_ | refine wI ?_ | refine wJ ?_ | refine wK ?_ | refine wL ?_); simp (disch := omega) only [wP, wZ, undef, seval, if_pos, if_neg, aStore, frz, AV.flat, ↓reduceIte, ne_eq, reduceCtorEq, ByteArray.size, stO, stR, iR, hXl, hXe, hXt, hXt2, Bool.and_false]))
              refine At.of (f, lens ++ X, p2, e3, c + n + 10, c + n + 10 + 1) ⟨by simp only; omega, by simp only; omega, hfin⟩ hmu rfl rfl ?_ ?_ ?_
              · simp only; omega
              · simp (disch := omega) only [wP, wZ, undef, seval, if_pos, if_neg, aStore, frz, AV.flat, ↓reduceIte, ne_eq, reduceCtorEq, ByteArray.size, hXl]
                try omega
              · simp (disch := omega) only [wP, wZ, undef, seval, if_pos, if_neg, aStore, frz, AV.flat, ↓reduceIte, ne_eq, reduceCtorEq, ByteArray.size, stR, iR, hXl, hn1']
                try omega
            have d18 : decide ((x : Int) = 18) = false := decide_eq_false (by omega)
            obtain rfl : y = x := by rw [hy, lsV, if_neg e16, if_neg (by omega)]
            have hb0 : lsB y = 0 := by rw [lsB, if_neg e16, if_neg e17, if_neg e18]
            have hN0 : lsN y = 1 := by rw [lsN, if_neg (by omega), if_neg e18]
            rw [hb0, nuS, if_neg (by simp), if_pos (by omega)] at hv
            simp only [List.take_zero, numB, Nat.add_zero, Prod.mk.injEq] at hv
            obtain ⟨rfl, rfl, rfl⟩ := hv
            obtain rfl : n = 1 := by omega
            have hdd : decide (((N : Nat) : Int) - (lens.length : Int) < 1) = bd := hdd
            repeat (first | refine wA ?_ | refine wB ?_ | refine wC rfl ?_ | refine wD rfl ?_ | refine wE ?_ | refine wF (by omega) ?_ | ((first | refine wG ?_ | refine wH ?_ | refine wI ?_ | refine wJ ?_ | refine wK ?_ | refine wL ?_); simp (disch := omega) only [wP, wZ, undef, seval, if_pos, if_neg, aStore, frz, AV.flat, ↓reduceIte, ne_eq, reduceCtorEq, ByteArray.size, stR, iR, dlt, hadd]))
            refine goC_h [(1000, 0), (1001, 0)] 8000 hS (by simp) (by simp) ?_ ?_ ?_
            iterate 2 (case _ => simp (disch := omega) only [wP, wZ, undef, seval, if_pos, if_neg, aStore, frz, AV.flat, ↓reduceIte, ne_eq, reduceCtorEq, ByteArray.size, stI, stR, iR, cdA])
            repeat (first | refine wA ?_ | refine wB ?_ | refine wC rfl ?_ | refine wD rfl ?_ | refine wE ?_ | refine wF (by omega) ?_ | ((first | refine wG ?_ | refine wH ?_ | refine wI ?_ | refine wJ ?_ | refine wK ?_ | refine wL ?_); simp (disch := omega) only [wP, wZ, undef, seval, if_pos, if_neg, aStore, frz, AV.flat, ↓reduceIte, ne_eq, reduceCtorEq, ByteArray.size, stO, stR, iR, d16, d17, d18, hadd, hdd]))
            refine goC_h [(1000, 0), (1001, 0)] 11000 hbd (by simp) (by simp) ?_ ?_ ?_
            iterate 2 (case _ => simp (disch := omega) only [wP, wZ, undef, seval, if_pos, if_neg, aStore, frz, AV.flat, ↓reduceIte, ne_eq, reduceCtorEq, ByteArray.size, stI, stR, iR, cdA])
            repeat (first | refine wA ?_ | refine wB ?_ | refine wC rfl ?_ | refine wD rfl ?_ | refine wE ?_ | refine wF (by omega) ?_ | ((first | refine wG ?_ | refine wH ?_ | refine wI ?_ | refine wJ ?_ | refine wK ?_ | refine wL ?_); simp (disch := omega) only [wP, wZ, undef, seval, if_pos, if_neg, aStore, frz, AV.flat, ↓reduceIte, ne_eq, reduceCtorEq, ByteArray.size, stO, stR, iR]))
            refine goC_h [] 12000 htm (by simp) (by simp) ?_ ?_ ?_
            iterate 2 (case _ => simp (disch := omega) only [wP, wZ, undef, seval, if_pos, if_neg, aStore, frz, AV.flat, ↓reduceIte, ne_eq, reduceCtorEq, ByteArray.size])
            repeat (first | refine wA ?_ | refine wB ?_ | refine wC rfl ?_ | refine wD rfl ?_ | refine wE ?_ | refine wF (by omega) ?_ | ((first | refine wG ?_ | refine wH ?_ | refine wI ?_ | refine wJ ?_ | refine wK ?_ | refine wL ?_); simp (disch := omega) only [wP, wZ, undef, seval, if_pos, if_neg, aStore, frz, AV.flat, ↓reduceIte, ne_eq, reduceCtorEq, ByteArray.size, stO, stR, iR, hXl, hXe, hXt, hXt2, Bool.and_false]))
            refine At.of (f, lens ++ X, p2, e3, c + 10, c + 10 + 1) ⟨by simp only; omega, by simp only; omega, hfin⟩ hmu rfl rfl ?_ ?_ ?_
            · simp only; omega
            iterate 2 (case _ => simp (disch := omega) only [wP, wZ, undef, seval, if_pos, if_neg, aStore, frz, AV.flat, ↓reduceIte, ne_eq, reduceCtorEq, ByteArray.size, hXl, stR, iR, hn1'])
        · rw [if_neg ce] at hrun
          simp only [BR.bnd] at hrun
          subst hrun
          obtain rfl : x = 0 := hs0 ce
          have de : decide ((e1 : Int) = 0) = false := decide_eq_false (by omega)
          have hbd := rf_bad_h nb B most p1 e1 out false 3
          rw [if_neg (by simp)] at hbd
          have hdd : decide (((N : Nat) : Int) - (lens.length : Int) < 1) = false := decide_eq_false (by omega)
          have htm := rf_times_h 0 1 (by omega)
          have hn1' : nl0 (lens.length + 1) = false := nl0_add (by omega)
          repeat (first | refine wA ?_ | refine wB ?_ | refine wC rfl ?_ | refine wD rfl ?_ | refine wE ?_ | refine wF (by omega) ?_ | ((first | refine wG ?_ | refine wH ?_ | refine wI ?_ | refine wJ ?_ | refine wK ?_ | refine wL ?_); simp (disch := omega) only [wP, wZ, undef, seval, if_pos, if_neg, aStore, frz, AV.flat, ↓reduceIte, ne_eq, reduceCtorEq, ByteArray.size, stR, iR, dlt, hadd]))
          refine goC_h [(1000, 0), (1001, 0)] 8000 hS (by simp) (by simp) ?_ ?_ ?_
          iterate 2 (case _ => simp (disch := omega) only [wP, wZ, undef, seval, if_pos, if_neg, aStore, frz, AV.flat, ↓reduceIte, ne_eq, reduceCtorEq, ByteArray.size, stI, stR, iR, cdA])
          repeat (first | refine wA ?_ | refine wB ?_ | refine wC rfl ?_ | refine wD rfl ?_ | refine wE ?_ | refine wF (by omega) ?_ | ((first | refine wG ?_ | refine wH ?_ | refine wI ?_ | refine wJ ?_ | refine wK ?_ | refine wL ?_); simp (disch := omega) only [wP, wZ, undef, seval, if_pos, if_neg, aStore, frz, AV.flat, ↓reduceIte, ne_eq, reduceCtorEq, ByteArray.size, stO, stR, iR, hadd, hdd]))
          refine goC_h [(1000, 0), (1001, 0)] 11000 hbd (by simp) (by simp) ?_ ?_ ?_
          iterate 2 (case _ => simp (disch := omega) only [wP, wZ, undef, seval, if_pos, if_neg, aStore, frz, AV.flat, ↓reduceIte, ne_eq, reduceCtorEq, ByteArray.size, stI, stR, iR, cdA])
          repeat (first | refine wA ?_ | refine wB ?_ | refine wC rfl ?_ | refine wD rfl ?_ | refine wE ?_ | refine wF (by omega) ?_ | ((first | refine wG ?_ | refine wH ?_ | refine wI ?_ | refine wJ ?_ | refine wK ?_ | refine wL ?_); simp (disch := omega) only [wP, wZ, undef, seval, if_pos, if_neg, aStore, frz, AV.flat, ↓reduceIte, ne_eq, reduceCtorEq, ByteArray.size, stO, stR, iR]))
          refine goC_h [] 12000 htm (by simp) (by simp) ?_ ?_ ?_
          iterate 2 (case _ => simp (disch := omega) only [wP, wZ, undef, seval, if_pos, if_neg, aStore, frz, AV.flat, ↓reduceIte, ne_eq, reduceCtorEq, ByteArray.size])
          repeat (first | refine wA ?_ | refine wB ?_ | refine wC rfl ?_ | refine wD rfl ?_ | refine wE ?_ | refine wF (by omega) ?_ | ((first | refine wG ?_ | refine wH ?_ | refine wI ?_ | refine wJ ?_ | refine wK ?_ | refine wL ?_); simp (disch := omega) only [wP, wZ, undef, seval, if_pos, if_neg, aStore, frz, AV.flat, ↓reduceIte, ne_eq, reduceCtorEq, ByteArray.size, stO, stR, iR, nl0_succ]))
          try refine ⟨⟨by simp, by simp <;> omega, by simp <;> omega⟩, ?_⟩
          refine At.of (f, lens ++ [0], p1, e1, c + 10, c + 11) ⟨by simp only; omega, by simp only [List.length_append, List.length_singleton]; omega, .inr ⟨ce, rfl⟩⟩ (by simp only; rw [if_neg ce]; omega) rfl rfl ?_ ?_ ?_
          · simp only; omega
          · simp (disch := omega) only [wP, wZ, undef, seval, if_pos, if_neg, aStore, frz, AV.flat, ↓reduceIte, ne_eq, reduceCtorEq, ByteArray.size]
            try rfl
          · simp (disch := omega) only [wP, wZ, undef, seval, if_pos, if_neg, aStore, frz, AV.flat, ↓reduceIte, ne_eq, reduceCtorEq, ByteArray.size, stR, iR, hn1']
            first | exact ⟨Bool.and_false _, rfl⟩ | rfl
      · have dlt : decide ((lens.length : Int) < ((N : Nat) : Int)) = false := decide_eq_false (by omega)
        obtain rfl : lens.length = N := by omega
        rw [show lsT th lens.length f lens = .ret lens by
          obtain ⟨f, rfl⟩ : ∃ f', f = f' + 1 := ⟨f - 1, by omega⟩
          rw [lsT, if_pos (Nat.le_refl _)]] at hrun
        simp only [BT.bnd] at hrun
        have hn1 : nl0 lens.length = false := nl0_pos (by omega)
        have htl : lens.take lens.length = lens := List.take_length
        refine SWp.frzo 9 g (nl := false) (cells := lens.map nA) (by simp (disch := omega) only [wP, wZ, undef, seval, if_pos, if_neg, aStore, frz, AV.flat, ↓reduceIte, ne_eq, reduceCtorEq, ByteArray.size, hn1]) free_nA ?_
        refine SWp.le (le_mk (N := 190) (gc := c) (l := [(0, .op 1000 0 0), (2, int (L : Int)), (3, int (D : Int)), (9, .sl false none (lens.map nA))]) (h := [(1000, 0, .row false (stR nb B most 0 out.length at2 0)), (1001, 0, .row (nl0 out.length) (out.map u8))]) rfl ?_ ?_ ?_) ?_
        · exact Nat.le_refl _
        iterate 2 (case _ => simp (disch := omega) only [wP, wZ, undef, seval, if_pos, if_neg, aStore, frz, AV.flat, ↓reduceIte, ne_eq, reduceCtorEq, ByteArray.size, fR, iR, htl, stR, false_and])
        repeat (first | refine wA ?_ | refine wB ?_ | refine wC rfl ?_ | refine wD rfl ?_ | refine wE ?_ | refine wF (by omega) ?_ | ((first | refine wG ?_ | refine wH ?_ | refine wI ?_ | refine wJ ?_ | refine wK ?_ | refine wL ?_); simp (disch := omega) only [wP, wZ, undef, seval, if_pos, if_neg, aStore, frz, AV.flat, ↓reduceIte, ne_eq, reduceCtorEq, ByteArray.size, stR, iR, dlt, hadd]))
        obtain ⟨ds, hds⟩ : ∃ ds, ds = lens.drop L := ⟨_, rfl⟩
        have hdl : ds.length = D := by rw [hds, List.length_drop]; omega
        have hdg : ∀ j, j < D → lens.getD (L + j) 0 = ds.getD j 0 := fun j hj => by rw [hds]; simp [List.getD]
        have hd15 : ∀ x ∈ ds, x ≤ 15 := fun x hx => hl15 x (by rw [hds] at hx; exact List.mem_of_mem_drop hx)
        refine SWp.loop (α := Nat) (fun m => mk 190 c [(0, .op 1000 0 0), (2, int (L : Int)), (3, int (D : Int)), (9, .sl false none (lens.map nA)), (13, int (usd (ds.take (m - L)) : Nat)), (14, int (mst (ds.take (m - L)) : Nat)), (15, int (m : Int))] [(1000, 0, .row false (stR nb B most 0 out.length at2 0)), (1001, 0, .row (nl0 out.length) (out.map u8))])
          (fun m => L ≤ m ∧ m ≤ lens.length) (fun m => lens.length - m) L ⟨Nat.le_refl _, by omega⟩ (le_mk rfl ?_ ?_ ?_) ?_
        · exact Nat.le_refl _
        iterate 2 (case _ => simp (disch := omega) only [wP, wZ, undef, seval, if_pos, if_neg, aStore, frz, AV.flat, ↓reduceIte, ne_eq, reduceCtorEq, ByteArray.size, Nat.sub_self, List.take_zero, usd, mst, List.foldl_nil, stR])
        rintro m ⟨hm1, hm2⟩ -
        obtain ⟨hu1, hu2, hu3, hu4⟩ := usd_facts _ (ds.take (m - L)) rfl
        have htl2 : (ds.take (m - L)).length ≤ 1000 := by rw [List.length_take]; omega
        have hsum := sum_le15 (l := ds.take (m - L)) fun x hx => hd15 x (List.mem_of_mem_take hx)
        repeat (first | refine wA ?_ | refine wB ?_ | refine wC rfl ?_ | refine wD rfl ?_ | refine wE ?_ | refine wF (by omega) ?_ | ((first | refine wG ?_ | refine wH ?_ | refine wI ?_ | refine wJ ?_ | refine wK ?_ | refine wL ?_); simp (disch := omega) only [wP, wZ, undef, seval, if_pos, if_neg, aStore, frz, AV.flat, ↓reduceIte, ne_eq, reduceCtorEq, ByteArray.size, stR, iR, hadd]))
        refine SWp.cond rfl (fun h => ?_) (fun h => ?_)
        · simp only [decide_eq_true_eq] at h
          have hmN : m < lens.length := by omega
          have hsn := snocD (l := ds) (k := m - L) (d := 0) (by omega)
          have hg := hdg (m - L) (by omega)
          rw [show L + (m - L) = m by omega] at hg
          rw [show m - L + 1 = m + 1 - L by omega] at hsn
          obtain ⟨x, hx⟩ : ∃ x, x = lens.getD m 0 := ⟨_, rfl⟩
          rw [← hx] at hg
          rw [← hg] at hsn
          have hus := usd_snoc (l := ds.take (m - L)) (x := x)
          have hms := mst_snoc (l := ds.take (m - L)) (x := x)
          rw [← hsn] at hus hms
          obtain ⟨U0, hU0⟩ : ∃ U0, U0 = usd (ds.take (m - L)) := ⟨_, rfl⟩
          obtain ⟨M0, hM0⟩ : ∃ M0, M0 = mst (ds.take (m - L)) := ⟨_, rfl⟩
          rw [← hU0] at hus hu1 hu2
          rw [← hM0] at hms hu3
          by_cases k1 : 0 < x
          · have d1 : decide ((0 : Int) < (x : Int)) = true := decide_eq_true (by omega)
            rw [if_pos k1] at hus
            by_cases k2 : M0 < x
            · have d2 : decide ((M0 : Int) < (x : Int)) = true := decide_eq_true (by omega)
              rw [if_pos k2] at hms
              repeat (first | refine wA ?_ | refine wB ?_ | refine wC rfl ?_ | refine wD rfl ?_ | refine wE ?_ | refine wF (by omega) ?_ | ((first | refine wG ?_ | refine wH ?_ | refine wI ?_ | refine wJ ?_ | refine wK ?_ | refine wL ?_); simp (disch := omega) only [wP, wZ, undef, seval, if_pos, if_neg, aStore, frz, AV.flat, ↓reduceIte, ne_eq, reduceCtorEq, ByteArray.size, stR, iR, ← hx, ← hU0, ← hM0, d1, d2]))
              refine At.of (m + 1) ⟨by omega, by omega⟩ (by omega) rfl rfl (Nat.le_refl _) ?_ ?_
              iterate 2 (case _ => simp (disch := omega) only [wP, wZ, undef, seval, if_pos, if_neg, aStore, frz, AV.flat, ↓reduceIte, ne_eq, reduceCtorEq, ByteArray.size, hus, hms, stR])
            · have d2 : decide ((M0 : Int) < (x : Int)) = false := decide_eq_false (by omega)
              rw [if_neg k2] at hms
              repeat (first | refine wA ?_ | refine wB ?_ | refine wC rfl ?_ | refine wD rfl ?_ | refine wE ?_ | refine wF (by omega) ?_ | ((first | refine wG ?_ | refine wH ?_ | refine wI ?_ | refine wJ ?_ | refine wK ?_ | refine wL ?_); simp (disch := omega) only [wP, wZ, undef, seval, if_pos, if_neg, aStore, frz, AV.flat, ↓reduceIte, ne_eq, reduceCtorEq, ByteArray.size, stR, iR, ← hx, ← hU0, ← hM0, d1, d2]))
              refine At.of (m + 1) ⟨by omega, by omega⟩ (by omega) rfl rfl (Nat.le_refl _) ?_ ?_
              iterate 2 (case _ => simp (disch := omega) only [wP, wZ, undef, seval, if_pos, if_neg, aStore, frz, AV.flat, ↓reduceIte, ne_eq, reduceCtorEq, ByteArray.size, hus, hms, stR])
          · have d1 : decide ((0 : Int) < (x : Int)) = false := decide_eq_false (by omega)
            have d2 : decide ((M0 : Int) < (x : Int)) = false := decide_eq_false (by omega)
            rw [if_neg k1] at hus
            rw [if_neg (by omega)] at hms
            repeat (first | refine wA ?_ | refine wB ?_ | refine wC rfl ?_ | refine wD rfl ?_ | refine wE ?_ | refine wF (by omega) ?_ | ((first | refine wG ?_ | refine wH ?_ | refine wI ?_ | refine wJ ?_ | refine wK ?_ | refine wL ?_); simp (disch := omega) only [wP, wZ, undef, seval, if_pos, if_neg, aStore, frz, AV.flat, ↓reduceIte, ne_eq, reduceCtorEq, ByteArray.size, stR, iR, ← hx, ← hU0, ← hM0, d1, d2]))
            refine At.of (m + 1) ⟨by omega, by omega⟩ (by omega) rfl rfl (Nat.le_refl _) ?_ ?_
            iterate 2 (case _ => simp (disch := omega) only [wP, wZ, undef, seval, if_pos, if_neg, aStore, frz, AV.flat, ↓reduceIte, ne_eq, reduceCtorEq, ByteArray.size, hus, hms, stR])
        simp only [decide_eq_false_iff_not] at h
        obtain rfl : m = lens.length := by omega
        rw [show ds.take (lens.length - L) = ds from List.take_of_length_le (by omega)] at hu1 hu2 hu3 hsum ⊢
        iterate 1 (first | refine wA ?_ | refine wB ?_ | refine wC rfl ?_ | refine wD rfl ?_ | refine wE ?_ | refine wF (by omega) ?_ | ((first | refine wG ?_ | refine wH ?_ | refine wI ?_ | refine wJ ?_ | refine wK ?_ | refine wL ?_); simp (disch := omega) only [wP, wZ, undef, seval, if_pos, if_neg, aStore, frz, AV.flat, ↓reduceIte, ne_eq, reduceCtorEq, ByteArray.size]))
        have hfd := few_usd (d := ds)
        obtain ⟨U0, hU0⟩ : ∃ U0, U0 = usd ds := ⟨_, rfl⟩
        obtain ⟨M0, hM0⟩ : ∃ M0, M0 = mst ds := ⟨_, rfl⟩
        rw [← hU0, ← hM0] at hfd
        rw [← hU0] at hu1 hu2 ⊢
        rw [← hM0] at hu3 ⊢
        have hF1 := ref_Full_n false (lens.take L) (fun x hx => hl15 x (List.mem_of_mem_take hx)) (by rw [List.length_take]; omega)
        have hF2 := ref_Full_n false ds hd15 (by omega)
        obtain ⟨tk, htk9⟩ : ∃ tk, tk = lens.take L := ⟨_, rfl⟩
        have htkl : tk.length = L := by rw [htk9, List.length_take]; omega
        have ht15 : ∀ x ∈ tk, x ≤ 15 := fun x hx => hl15 x (by rw [htk9] at hx; exact List.mem_of_mem_take hx)
        have h256 : lens.getD 256 0 = tk.getD 256 0 := by rw [htk9]; simp only [List.getD]; rw [List.getElem?_take, if_pos (by omega)]
        rw [K2, ← htk9, ← hds] at hrun
        rw [← htk9] at hF1
        have hco : codN tk ds = (decide (tk.getD 256 0 ≠ 0) && fulN tk && (!(decide (1 < U0) || decide (1 < M0)) || fulN ds)) := by rw [codN, fewN, hfd]
        have hLl : (L : Int) ≤ ((lens.length : Nat) : Int) := by omega
        obtain ⟨x6, hx6⟩ : ∃ x6, x6 = tk.getD 256 0 := ⟨_, rfl⟩
        rw [← hx6] at h256 hco
        have hfrt : AV.free.freeL [.sl false none (tk.map nA)] = true := by simp only [AV.free, AV.free.freeL, free_nA, Bool.and_self]
        have hfrd : AV.free.freeL [.sl false none (ds.map nA)] = true := by simp only [AV.free, AV.free.freeL, free_nA, Bool.and_self]
        have qU : decide ((1 : Int) < (U0 : Int)) = decide (1 < U0) := decide_eq_decide.2 (by omega)
        have qM : decide ((1 : Int) < (M0 : Int)) = decide (1 < M0) := decide_eq_decide.2 (by omega)
        cases hcN : codN tk ds with
        | false =>
          rw [if_neg (by rw [hcN]; simp)] at hrun
          simp only [BT.run] at hrun
          subst hrun
          refine SWp.le (le_mk (N := 190) (gc := 400100) (l := [(0, .op 1000 0 0), (2, int (L : Int)), (3, int (D : Int)), (9, .sl false none (lens.map nA)), (13, int (U0 : Int)), (14, int (M0 : Int))]) (h := [(1000, 0, .row false (stR nb B most 0 out.length at2 0))]) rfl ?_ ?_ ?_) ?_
          · show c ≤ 400100; omega
          iterate 2 (case _ => simp (disch := omega) only [wP, wZ, undef, seval, if_pos, if_neg, aStore, frz, AV.flat, ↓reduceIte, ne_eq, reduceCtorEq, ByteArray.size, stR, iR])
          refine SWp.blur 1000 0 (nl := false) (cells := (stR nb B most 0 out.length at2 0)) (jkR 0) (by simp (disch := omega) only [wP, wZ, undef, seval, if_pos, if_neg, aStore, frz, AV.flat, ↓reduceIte, ne_eq, reduceCtorEq, ByteArray.size]) (by simp only [stR, jkR, Blur]; simp) ?_
          refine SWp.le (le_mk (N := 190) (gc := 400100) (l := [(0, .op 1000 0 0), (2, int (L : Int)), (3, int (D : Int)), (9, .sl false none (lens.map nA)), (13, int (U0 : Int)), (14, int (M0 : Int))]) (h := [(1000, 0, .row false (jkR 0))]) rfl ?_ ?_ ?_) ?_
          · exact Nat.le_refl _
          iterate 2 (case _ => simp (disch := omega) only [wP, wZ, undef, seval, if_pos, if_neg, aStore, frz, AV.flat, ↓reduceIte, ne_eq, reduceCtorEq, ByteArray.size])
          by_cases k1 : x6 = 0
          · have d1 : decide ((x6 : Int) = 0) = true := decide_eq_true (by omega)
            repeat (first | refine wA ?_ | refine wB ?_ | refine wC rfl ?_ | refine wD rfl ?_ | refine wE ?_ | refine wF (by omega) ?_ | ((first | refine wG ?_ | refine wH ?_ | refine wI ?_ | refine wJ ?_ | refine wK ?_ | refine wL ?_); simp (disch := omega) only [wP, wZ, undef, seval, if_pos, if_neg, aStore, frz, AV.flat, ↓reduceIte, ne_eq, reduceCtorEq, ByteArray.size, jkR, houC, iR, h256, d1]))
            all_goals omega
          · have d1 : decide ((x6 : Int) = 0) = false := decide_eq_false (by omega)
            rw [decide_eq_true (by simpa using k1), Bool.true_and] at hco
            cases k2 : fulN tk with
            | false =>
              rw [k2] at hF1
              repeat (first | refine wA ?_ | refine wB ?_ | refine wC rfl ?_ | refine wD rfl ?_ | refine wE ?_ | refine wF (by omega) ?_ | ((first | refine wG ?_ | refine wH ?_ | refine wI ?_ | refine wJ ?_ | refine wK ?_ | refine wL ?_); simp (disch := omega) only [wP, wZ, undef, seval, if_pos, if_neg, aStore, frz, AV.flat, ↓reduceIte, ne_eq, reduceCtorEq, ByteArray.size, jkR, houC, iR, h256, d1, ← htk9]))
              refine goC_p _ (.inl ⟨hfrt, hF1⟩) ?_
              repeat (first | refine wA ?_ | refine wB ?_ | refine wC rfl ?_ | refine wD rfl ?_ | refine wE ?_ | refine wF (by omega) ?_ | ((first | refine wG ?_ | refine wH ?_ | refine wI ?_ | refine wJ ?_ | refine wK ?_ | refine wL ?_); simp (disch := omega) only [wP, wZ, undef, seval, if_pos, if_neg, aStore, frz, AV.flat, ↓reduceIte, ne_eq, reduceCtorEq, ByteArray.size, jkR, houC, iR]))
              all_goals omega
            | true =>
              rw [k2] at hF1
              rw [k2, Bool.true_and, hcN] at hco
              cases k3 : fulN ds with
              | true => rw [k3, Bool.or_true] at hco; cases hco
              | false =>
                rw [k3] at hF2
                rw [k3, Bool.or_false] at hco
                repeat (first | refine wA ?_ | refine wB ?_ | refine wC rfl ?_ | refine wD rfl ?_ | refine wE ?_ | refine wF (by omega) ?_ | ((first | refine wG ?_ | refine wH ?_ | refine wI ?_ | refine wJ ?_ | refine wK ?_ | refine wL ?_); simp (disch := omega) only [wP, wZ, undef, seval, if_pos, if_neg, aStore, frz, AV.flat, ↓reduceIte, ne_eq, reduceCtorEq, ByteArray.size, jkR, houC, iR, h256, d1, ← htk9]))
                refine goC_p _ (.inl ⟨hfrt, hF1⟩) ?_
                repeat (first | refine wA ?_ | refine wB ?_ | refine wC rfl ?_ | refine wD rfl ?_ | refine wE ?_ | refine wF (by omega) ?_ | ((first | refine wG ?_ | refine wH ?_ | refine wI ?_ | refine wJ ?_ | refine wK ?_ | refine wL ?_); simp (disch := omega) only [wP, wZ, undef, seval, if_pos, if_neg, aStore, frz, AV.flat, ↓reduceIte, ne_eq, reduceCtorEq, ByteArray.size, jkR, houC, iR, ← hds]))
                refine goC_p _ (.inl ⟨hfrd, hF2⟩) ?_
                by_cases k4 : 1 < U0
                · rw [decide_eq_true k4] at qU
                  repeat (first | refine wA ?_ | refine wB ?_ | refine wC rfl ?_ | refine wD rfl ?_ | refine wE ?_ | refine wF (by omega) ?_ | ((first | refine wG ?_ | refine wH ?_ | refine wI ?_ | refine wJ ?_ | refine wK ?_ | refine wL ?_); simp (disch := omega) only [wP, wZ, undef, seval, if_pos, if_neg, aStore, frz, AV.flat, ↓reduceIte, ne_eq, reduceCtorEq, ByteArray.size, jkR, houC, iR, qU]))
                  all_goals omega
                · rw [decide_eq_false k4] at qU
                  have k5 : 1 < M0 := by
                    by_cases q : 1 < M0
                    · exact q
                    · rw [decide_eq_false k4, decide_eq_false q] at hco; cases hco
                  rw [decide_eq_true k5] at qM
                  repeat (first | refine wA ?_ | refine wB ?_ | refine wC rfl ?_ | refine wD rfl ?_ | refine wE ?_ | refine wF (by omega) ?_ | ((first | refine wG ?_ | refine wH ?_ | refine wI ?_ | refine wJ ?_ | refine wK ?_ | refine wL ?_); simp (disch := omega) only [wP, wZ, undef, seval, if_pos, if_neg, aStore, frz, AV.flat, ↓reduceIte, ne_eq, reduceCtorEq, ByteArray.size, jkR, houC, iR, qU, qM]))
                  all_goals omega
        | true =>
          rw [if_pos hcN] at hrun
          obtain ⟨hc1, hc2, hc3⟩ := codN_ok hcN
          rw [hcN] at hco
          have hco := hco.symm
          simp only [Bool.and_eq_true, decide_eq_true_eq] at hco
          obtain ⟨⟨k1, k2⟩, k3⟩ := hco
          have d1 : decide ((x6 : Int) = 0) = false := decide_eq_false (by omega)
          rw [k2] at hF1
          refine SWp.to (F := mk 190 499997 [(0, .op 1000 0 0), (2, int (L : Int)), (3, int (D : Int)), (9, .sl false none (lens.map nA))] [(1000, 0, .row false (stR nb B most 0 out.length at2 0)), (1001, 0, .row (nl0 out.length) (out.map u8))]) ?_ ?_
          · cases k4 : fulN ds with
            | true =>
              rw [k4] at hF2
              repeat (first | refine wA ?_ | refine wB ?_ | refine wC rfl ?_ | refine wD rfl ?_ | refine wE ?_ | refine wF (by omega) ?_ | ((first | refine wG ?_ | refine wH ?_ | refine wI ?_ | refine wJ ?_ | refine wK ?_ | refine wL ?_); simp (disch := omega) only [wP, wZ, undef, seval, if_pos, if_neg, aStore, frz, AV.flat, ↓reduceIte, ne_eq, reduceCtorEq, ByteArray.size, stR, iR, h256, d1, ← htk9]))
              refine goC_p _ (.inl ⟨hfrt, hF1⟩) ?_
              repeat (first | refine wA ?_ | refine wB ?_ | refine wC rfl ?_ | refine wD rfl ?_ | refine wE ?_ | refine wF (by omega) ?_ | ((first | refine wG ?_ | refine wH ?_ | refine wI ?_ | refine wJ ?_ | refine wK ?_ | refine wL ?_); simp (disch := omega) only [wP, wZ, undef, seval, if_pos, if_neg, aStore, frz, AV.flat, ↓reduceIte, ne_eq, reduceCtorEq, ByteArray.size, stR, iR, ← hds]))
              refine goC_p _ (.inl ⟨hfrd, hF2⟩) ?_
              repeat (first | refine wA ?_ | refine wB ?_ | refine wC rfl ?_ | refine wD rfl ?_ | refine wE ?_ | refine wF (by omega) ?_ | ((first | refine wG ?_ | refine wH ?_ | refine wI ?_ | refine wJ ?_ | refine wK ?_ | refine wL ?_); simp (disch := omega) only [wP, wZ, undef, seval, if_pos, if_neg, aStore, frz, AV.flat, ↓reduceIte, ne_eq, reduceCtorEq, ByteArray.size, stR, iR]))
              refine SWp.skip ?_
              exact le_mk rfl (by simp only; omega) (by simp (disch := omega) only [wP, wZ, undef, seval, if_pos, if_neg, aStore, frz, AV.flat, ↓reduceIte, ne_eq, reduceCtorEq, ByteArray.size]) (by simp (disch := omega) only [wP, wZ, undef, seval, if_pos, if_neg, aStore, frz, AV.flat, ↓reduceIte, ne_eq, reduceCtorEq, ByteArray.size, stR, iR])
            | false =>
              rw [k4] at hF2
              rw [k4, Bool.or_false] at k3
              simp only [Bool.not_eq_true', Bool.or_eq_false_iff] at k3
              rw [k3.1] at qU
              rw [k3.2] at qM
              repeat (first | refine wA ?_ | refine wB ?_ | refine wC rfl ?_ | refine wD rfl ?_ | refine wE ?_ | refine wF (by omega) ?_ | ((first | refine wG ?_ | refine wH ?_ | refine wI ?_ | refine wJ ?_ | refine wK ?_ | refine wL ?_); simp (disch := omega) only [wP, wZ, undef, seval, if_pos, if_neg, aStore, frz, AV.flat, ↓reduceIte, ne_eq, reduceCtorEq, ByteArray.size, stR, iR, h256, d1, ← htk9]))
              refine goC_p _ (.inl ⟨hfrt, hF1⟩) ?_
              repeat (first | refine wA ?_ | refine wB ?_ | refine wC rfl ?_ | refine wD rfl ?_ | refine wE ?_ | refine wF (by omega) ?_ | ((first | refine wG ?_ | refine wH ?_ | refine wI ?_ | refine wJ ?_ | refine wK ?_ | refine wL ?_); simp (disch := omega) only [wP, wZ, undef, seval, if_pos, if_neg, aStore, frz, AV.flat, ↓reduceIte, ne_eq, reduceCtorEq, ByteArray.size, stR, iR, ← hds]))
              refine goC_p _ (.inl ⟨hfrd, hF2⟩) ?_
              repeat (first | refine wA ?_ | refine wB ?_ | refine wC rfl ?_ | refine wD rfl ?_ | refine wE ?_ | refine wF (by omega) ?_ | ((first | refine wG ?_ | refine wH ?_ | refine wI ?_ | refine wJ ?_ | refine wK ?_ | refine wL ?_); simp (disch := omega) only [wP, wZ, undef, seval, if_pos, if_neg, aStore, frz, AV.flat, ↓reduceIte, ne_eq, reduceCtorEq, ByteArray.size, stR, iR, qU, qM]))
              refine SWp.skip ?_
              exact le_mk rfl (by simp only; omega) (by simp (disch := omega) only [wP, wZ, undef, seval, if_pos, if_neg, aStore, frz, AV.flat, ↓reduceIte, ne_eq, reduceCtorEq, ByteArray.size]) (by simp (disch := omega) only [wP, wZ, undef, seval, if_pos, if_neg, aStore, frz, AV.flat, ↓reduceIte, ne_eq, reduceCtorEq, ByteArray.size, stR, iR])
          · have m1 := rf_made_c false tk ht15 (by omega) hc2
            have m2 := rf_made_c false ds hd15 (by omega) hc3
            have hCo := rf_coded_h nb B (by omega) hB2 most hm at2 (by omega) out ho false tk.isEmpty tk (by omega) ht15 hc2 false ds.isEmpty ds (by omega) hd15 hc3 F (by omega) r hrun
            obtain ⟨em1, hem1⟩ : ∃ em, em = tk.isEmpty := ⟨_, rfl⟩
            obtain ⟨em2, hem2⟩ : ∃ em, em = ds.isEmpty := ⟨_, rfl⟩
            rw [← hem1] at m1 hCo
            rw [← hem2] at m2 hCo
            repeat (first | refine wA ?_ | refine wB ?_ | refine wC rfl ?_ | refine wD rfl ?_ | refine wE ?_ | refine wF (by omega) ?_ | ((first | refine wG ?_ | refine wH ?_ | refine wI ?_ | refine wJ ?_ | refine wK ?_ | refine wL ?_); simp (disch := omega) only [wP, wZ, undef, seval, if_pos, if_neg, aStore, frz, AV.flat, ↓reduceIte, ne_eq, reduceCtorEq, ByteArray.size, stR, iR, ← htk9]))
            refine goC_p _ (.inl ⟨hfrt, m1⟩) ?_
            repeat (first | refine wA ?_ | refine wB ?_ | refine wC rfl ?_ | refine wD rfl ?_ | refine wE ?_ | refine wF (by omega) ?_ | ((first | refine wG ?_ | refine wH ?_ | refine wI ?_ | refine wJ ?_ | refine wK ?_ | refine wL ?_); simp (disch := omega) only [wP, wZ, undef, seval, if_pos, if_neg, aStore, frz, AV.flat, ↓reduceIte, ne_eq, reduceCtorEq, ByteArray.size, cdA, iR, ← hds]))
            refine goC_p _ (.inl ⟨hfrd, m2⟩) ?_
            repeat (first | refine wA ?_ | refine wB ?_ | refine wC rfl ?_ | refine wD rfl ?_ | refine wE ?_ | refine wF (by omega) ?_ | ((first | refine wG ?_ | refine wH ?_ | refine wI ?_ | refine wJ ?_ | refine wK ?_ | refine wL ?_); simp (disch := omega) only [wP, wZ, undef, seval, if_pos, if_neg, aStore, frz, AV.flat, ↓reduceIte, ne_eq, reduceCtorEq, ByteArray.size, cdA, iR]))
            refine goC_h [(1000, 0), (1001, 0)] 20000 hCo (by simp) (by simp) ?_ ?_ ?_
            iterate 2 (case _ => simp (disch := omega) only [wP, wZ, undef, seval, if_pos, if_neg, aStore, frz, AV.flat, ↓reduceIte, ne_eq, reduceCtorEq, ByteArray.size, stI, stR, iR, cdA])
            cases r with
            | ok o j =>
              repeat (first | refine wA ?_ | refine wB ?_ | refine wC rfl ?_ | refine wD rfl ?_ | refine wE ?_ | refine wF (by omega) ?_ | ((first | refine wG ?_ | refine wH ?_ | refine wI ?_ | refine wJ ?_ | refine wK ?_ | refine wL ?_); simp (disch := omega) only [wP, wZ, undef, seval, if_pos, if_neg, aStore, frz, AV.flat, ↓reduceIte, ne_eq, reduceCtorEq, ByteArray.size, houC, stO, stR, iR]))
              exact ⟨⟨by rw [show 499997 + (1000 * F + 2 + 1) = 1000 * F + 500000 by omega], by omega⟩, by omega⟩
            | no e =>
              repeat (first | refine wA ?_ | refine wB ?_ | refine wC rfl ?_ | refine wD rfl ?_ | refine wE ?_ | refine wF (by omega) ?_ | ((first | refine wG ?_ | refine wH ?_ | refine wI ?_ | refine wJ ?_ | refine wK ?_ | refine wL ?_); simp (disch := omega) only [wP, wZ, undef, seval, if_pos, if_neg, aStore, frz, AV.flat, ↓reduceIte, ne_eq, reduceCtorEq, ByteArray.size, houC, jkR, iR]))
              all_goals omega
    · have de : decide ((e : Int) = 0) = false := decide_eq_false (by omega)
      refine SWp.le (le_mk (N := 190) (gc := 400100) (l := [(0, .op 1000 0 0), (2, int (L : Int)), (3, int (D : Int)), (9, .own 9 g none 0 lens.length)]) (h := [(1000, 0, .row false (stR nb B most 0 out.length at2 e)), (9, g, .row (nl0 lens.length) (lens.map nA))]) rfl ?_ ?_ ?_) ?_
      · show c ≤ 400100; omega
      iterate 2 (case _ => simp (disch := omega) only [wP, wZ, undef, seval, if_pos, if_neg, aStore, frz, AV.flat, ↓reduceIte, ne_eq, reduceCtorEq, ByteArray.size, stR, iR])
      refine SWp.blur 1000 0 (nl := false) (cells := (stR nb B most 0 out.length at2 e)) (jkR e) (by simp (disch := omega) only [wP, wZ, undef, seval, if_pos, if_neg, aStore, frz, AV.flat, ↓reduceIte, ne_eq, reduceCtorEq, ByteArray.size]) (by simp only [stR, jkR, Blur]; simp) ?_
      refine SWp.le (le_mk (N := 190) (gc := 400100) (l := [(0, .op 1000 0 0), (2, int (L : Int)), (3, int (D : Int)), (9, .own 9 g none 0 lens.length)]) (h := [(1000, 0, .row false (jkR e)), (9, g, .row (nl0 lens.length) (lens.map nA))]) rfl ?_ ?_ ?_) ?_
      · exact Nat.le_refl _
      iterate 2 (case _ => simp (disch := omega) only [wP, wZ, undef, seval, if_pos, if_neg, aStore, frz, AV.flat, ↓reduceIte, ne_eq, reduceCtorEq, ByteArray.size])
      by_cases clt : (lens.length : Int) < ((N : Nat) : Int)
      · have dlt := decide_eq_true clt
        repeat (first | refine wA ?_ | refine wB ?_ | refine wC rfl ?_ | refine wD rfl ?_ | refine wE ?_ | refine wF (by omega) ?_ | ((first | refine wG ?_ | refine wH ?_ | refine wI ?_ | refine wJ ?_ | refine wK ?_ | refine wL ?_); simp (disch := omega) only [wP, wZ, undef, seval, if_pos, if_neg, aStore, frz, AV.flat, ↓reduceIte, ne_eq, reduceCtorEq, ByteArray.size, jkR, houC, iR, de, dlt, hadd]))
        all_goals omega
      · have dlt := decide_eq_false clt
        repeat (first | refine wA ?_ | refine wB ?_ | refine wC rfl ?_ | refine wD rfl ?_ | refine wE ?_ | refine wF (by omega) ?_ | ((first | refine wG ?_ | refine wH ?_ | refine wI ?_ | refine wJ ?_ | refine wK ?_ | refine wL ?_); simp (disch := omega) only [wP, wZ, undef, seval, if_pos, if_neg, aStore, frz, AV.flat, ↓reduceIte, ne_eq, reduceCtorEq, ByteArray.size, jkR, houC, iR, de, dlt, hadd]))
        all_goals omega
  · have de : decide ((e5 : Int) = 0) = false := decide_eq_false (by omega)
    refine SWp.le (le_mk (N := 190) (gc := 100) (l := [(0, .op 1000 0 0)]) (h := [(1000, 0, .row false (stR nb B most 0 out.length at0 e5))]) rfl ?_ ?_ ?_) ?_
    · show 30 + k ≤ 100; omega
    iterate 2 (case _ => simp (disch := omega) only [wP, wZ, undef, seval, if_pos, if_neg, aStore, frz, AV.flat, ↓reduceIte, ne_eq, reduceCtorEq, ByteArray.size, stR, iR])
    refine SWp.blur 1000 0 (nl := false) (cells := (stR nb B most 0 out.length at0 e5)) (jkR e5) (by simp (disch := omega) only [wP, wZ, undef, seval, if_pos, if_neg, aStore, frz, AV.flat, ↓reduceIte, ne_eq, reduceCtorEq, ByteArray.size]) (by simp only [stR, jkR, Blur]; simp) ?_
    refine SWp.le (le_mk (N := 190) (gc := 100) (l := [(0, .op 1000 0 0)]) (h := [(1000, 0, .row false (jkR e5))]) rfl ?_ ?_ ?_) ?_
    · exact Nat.le_refl _
    iterate 2 (case _ => simp (disch := omega) only [wP, wZ, undef, seval, if_pos, if_neg, aStore, frz, AV.flat, ↓reduceIte, ne_eq, reduceCtorEq, ByteArray.size])
    repeat (first | refine wA ?_ | refine wB ?_ | refine wC rfl ?_ | refine wD rfl ?_ | refine wE ?_ | refine wF (by omega) ?_ | ((first | refine wG ?_ | refine wH ?_ | refine wI ?_ | refine wJ ?_ | refine wK ?_ | refine wL ?_); simp (disch := omega) only [wP, wZ, undef, seval, if_pos, if_neg, aStore, frz, AV.flat, ↓reduceIte, ne_eq, reduceCtorEq, ByteArray.size, jkR, houC, iR, de]))
    all_goals omega
end Go.Proofs.YtokdmakljdhjiaaDoor.Aw
