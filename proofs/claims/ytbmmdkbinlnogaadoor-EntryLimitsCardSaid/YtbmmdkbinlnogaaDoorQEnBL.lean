/- Parts of the proofs of En. -/
import Derived.Test.YtbmmdkbinlnogaaDoorQEnBJ
import Derived.Test.YtbmmdkbinlnogaaDoorQEnBK
import Derived.Test.YtbmmdkbinlnogaaDoorQEnAY
namespace Go.Proofs.YtbmmdkbinlnogaaDoor.Aw
open Go
set_option linter.unusedSimpArgs false
set_option linter.unusedVariables false
abbrev EnT := List UInt8 × Int × Int × Int × Int × List UInt8 × List UInt8 × Int × List UInt8 × (Bool × List UInt8) × Unit
def enOf (a : EnT) : Ent := ⟨a.1, a.2.1, a.2.2.1, a.2.2.2.1, a.2.2.2.2.1, a.2.2.2.2.2.1, a.2.2.2.2.2.2.1, a.2.2.2.2.2.2.2.1, a.2.2.2.2.2.2.2.2.1, a.2.2.2.2.2.2.2.2.2.1.1, a.2.2.2.2.2.2.2.2.2.1.2⟩
abbrev iR64 (n : Int) : Prop := IntKind.i64.min ≤ n ∧ n ≤ IntKind.i64.max
abbrev enR (a : EnT) : Prop := a.1.length ≤ maxLen ∧ iR64 a.2.1 ∧ iR64 a.2.2.1 ∧ iR64 a.2.2.2.1 ∧ iR64 a.2.2.2.2.1 ∧ a.2.2.2.2.2.1.length ≤ maxLen ∧ a.2.2.2.2.2.2.1.length ≤ maxLen ∧ iR64 a.2.2.2.2.2.2.2.1 ∧ a.2.2.2.2.2.2.2.2.1.length ≤ maxLen ∧ (a.2.2.2.2.2.2.2.2.2.1.2.length ≤ maxLen ∧ (a.2.2.2.2.2.2.2.2.2.1.1 = true → a.2.2.2.2.2.2.2.2.2.1.2 = []) ∧ ∀ c ∈ a.2.2.2.2.2.2.2.2.2.1.2, True) ∧ True
theorem enR_B {a : EnT} (h : enR a) : entB (enOf a) ∧ entI (enOf a) ∧ ((enOf a).nl = true → (enOf a).data = []) := by
  obtain ⟨h1, h2, h3, h4, h5, h6, h7, h8, h9, ⟨h10, h11, -⟩, -⟩ := h
  have e : maxLen ≤ 9223372036854775807 := by decide
  refine ⟨⟨Nat.le_trans h1 e, Nat.le_trans h9 e, Nat.le_trans h6 e, Nat.le_trans h7 e, Nat.le_trans h10 e⟩, ⟨?_, ?_, ?_, ?_⟩, h11⟩
  · exact ⟨h3.1, h3.2⟩
  · exact ⟨h4.1, h4.2⟩
  · exact ⟨h5.1, h5.2⟩
  · exact ⟨h8.1, h8.2⟩
theorem light_S {l : List Ent} {c m : Nat} (hm : m ≤ 100000) (h : lightV l c m = true) : l.length ≤ c ∧ ∀ e ∈ l, entS e := by
  rw [lightV, Bool.and_eq_true, decide_eq_true_eq, decide_eq_true_eq] at h
  refine ⟨h.1, fun e he => ?_⟩
  obtain ⟨h1, h2, h3, h4, h5⟩ := wgt_le (lrun_all h.2 e he)
  exact ⟨by omega, by omega, by omega, by omega, by omega⟩
theorem map_enOf {l : List EnT} : (l.map fun a => entV (enOf a)) = (l.map enOf).map entV := by simp
theorem enR_all {l : List EnT} (h : ∀ a ∈ l, enR a) : (∀ e ∈ l.map enOf, entB e) ∧ (∀ e ∈ l.map enOf, entI e) ∧ nlOk (l.map enOf) := by
  refine ⟨fun e he => ?_, fun e he => ?_, fun e he => ?_⟩
  all_goals
    obtain ⟨a, ha, rfl⟩ := List.mem_map.1 he
    have := enR_B (h a ha)
  · exact this.1
  · exact this.2.1
  · exact this.2.2
set_option maxHeartbeats 4000000 in
set_option maxRecDepth 100000 in
theorem EntryChecks_law [Tabs Tryd.prog] (x : EnT) (hx : enR x) (p : Bool × List EnT) (hp : p.2.length ≤ maxLen ∧ (p.1 = true → p.2 = []) ∧ ∀ a ∈ p.2, enR a) :
    Con Tryd.prog n_drayagelaw07_EntryChecks [entV (enOf x), .sl p.1 (some 10) (p.2.map fun a => entV (enOf a))] (boo true) := by
  obtain ⟨nl, q⟩ := p
  simp only at hp ⊢
  obtain ⟨hb, hi, hn⟩ := enR_all hp.2.2
  obtain ⟨eb, ei, en⟩ := enR_B hx
  have hql : q.length ≤ 9223372036854775807 := Nat.le_trans hp.1 (by decide)
  rw [map_enOf]
  obtain ⟨l, hl⟩ : ∃ l, l = q.map enOf := ⟨_, rfl⟩
  have hll : l.length ≤ 9223372036854775807 := by rw [hl, List.length_map]; exact hql
  rw [← hl] at hb hi hn ⊢
  obtain ⟨e, he⟩ : ∃ e, e = enOf x := ⟨_, rfl⟩
  rw [← he] at eb ei en ⊢
  clear hl he hp hx
  refine Con.of' mix Tryd.func4 rfl Tryd.ntmps4 e_drayagelaw07_EntryChecks r_drayagelaw07_EntryChecks (by simp) (by simp only [AV.free.freeL, AV.free, free_ents, entV, entL, str, int, free_u8, Bool.and_self]) rfl ?_
  unfold s_drayagelaw07_EntryChecks
  repeat (first | refine wA ?_ | refine wB ?_ | refine wC rfl ?_ | refine wD rfl ?_ | refine wE ?_ | refine wF (by omega) ?_ | ((first | refine wG ?_ | refine wH ?_ | refine wI ?_ | refine wJ ?_ | refine wK ?_ | refine wL ?_); simp (disch := omega) only [wP, wZ, undef, UInt8.reduceToNat, Nat.reduceOr, Nat.reduceAnd, Nat.reduceXor, Nat.reduceDiv, if_pos, if_neg, aStore, frz, AV.flat, ↓reduceIte, ne_eq, reduceCtorEq, Int.reduceToNat, Nat.reduceEqDiff, Nat.reduceAdd, Nat.reduceSub, Nat.reduceMul, Int.reduceAdd, Int.reduceMul, Int.reduceSub, Int.reduceLT, Int.reduceLE, Int.reduceEq, Int.reduceNe, Nat.reduceLeDiff, Nat.reduceLT, Int.reduceNeg, Nat.reducePow, Nat.reduceMod, ByteArray.size, entV]))
  refine goC_p _ (.inl ⟨rfl, awake7_c⟩) ?_
  repeat (first | refine wA ?_ | refine wB ?_ | refine wC rfl ?_ | refine wD rfl ?_ | refine wE ?_ | refine wF (by omega) ?_ | ((first | refine wG ?_ | refine wH ?_ | refine wI ?_ | refine wJ ?_ | refine wK ?_ | refine wL ?_); simp (disch := omega) only [wP, wZ, undef, UInt8.reduceToNat, Nat.reduceOr, Nat.reduceAnd, Nat.reduceXor, Nat.reduceDiv, if_pos, if_neg, aStore, frz, AV.flat, ↓reduceIte, ne_eq, reduceCtorEq, Int.reduceToNat, Nat.reduceEqDiff, Nat.reduceAdd, Nat.reduceSub, Nat.reduceMul, Int.reduceAdd, Int.reduceMul, Int.reduceSub, Int.reduceLT, Int.reduceLE, Int.reduceEq, Int.reduceNe, Nat.reduceLeDiff, Nat.reduceLT, Int.reduceNeg, Nat.reducePow, Nat.reduceMod, ByteArray.size, boo]))
  refine goC_p _ (.inl ⟨by simp only [AV.free.freeL, AV.free, free_ents, Bool.and_self], ref_Light_c nl l hll hb 60 5000 (by decide) (by decide)⟩) ?_
  cases c1 : lightV l 60 5000
  · repeat (first | refine wA ?_ | refine wB ?_ | refine wC rfl ?_ | refine wD rfl ?_ | refine wE ?_ | refine wF (by omega) ?_ | ((first | refine wG ?_ | refine wH ?_ | refine wI ?_ | refine wJ ?_ | refine wK ?_ | refine wL ?_); simp (disch := omega) only [wP, wZ, undef, UInt8.reduceToNat, Nat.reduceOr, Nat.reduceAnd, Nat.reduceXor, Nat.reduceDiv, if_pos, if_neg, aStore, frz, AV.flat, ↓reduceIte, ne_eq, reduceCtorEq, Int.reduceToNat, Nat.reduceEqDiff, Nat.reduceAdd, Nat.reduceSub, Nat.reduceMul, Int.reduceAdd, Int.reduceMul, Int.reduceSub, Int.reduceLT, Int.reduceLE, Int.reduceEq, Int.reduceNe, Nat.reduceLeDiff, Nat.reduceLT, Int.reduceNeg, Nat.reducePow, Nat.reduceMod, ByteArray.size, boo]))
    done
  repeat (first | refine wA ?_ | refine wB ?_ | refine wC rfl ?_ | refine wD rfl ?_ | refine wE ?_ | refine wF (by omega) ?_ | ((first | refine wG ?_ | refine wH ?_ | refine wI ?_ | refine wJ ?_ | refine wK ?_ | refine wL ?_); simp (disch := omega) only [wP, wZ, undef, UInt8.reduceToNat, Nat.reduceOr, Nat.reduceAnd, Nat.reduceXor, Nat.reduceDiv, if_pos, if_neg, aStore, frz, AV.flat, ↓reduceIte, ne_eq, reduceCtorEq, Int.reduceToNat, Nat.reduceEqDiff, Nat.reduceAdd, Nat.reduceSub, Nat.reduceMul, Int.reduceAdd, Int.reduceMul, Int.reduceSub, Int.reduceLT, Int.reduceLE, Int.reduceEq, Int.reduceNe, Nat.reduceLeDiff, Nat.reduceLT, Int.reduceNeg, Nat.reducePow, Nat.reduceMod, ByteArray.size, boo, entL]))
  refine ⟨⟨_, rfl, rfl⟩, ?_⟩
  have el := ref_Light_c false [e] (by simp) (by simpa using eb) 1 5000 (by decide) (by decide)
  refine goC_f 16 1 [.sl false (some 10) [entV e], int 1, int 5000] _ rfl (by simp only [AV.free, AV.free.freeL, free_u8, Bool.and_self, List.flatMap_cons, List.flatMap_nil, cellsA, Option.getD_some, List.append_nil]) rfl (by simp only [AV.free, AV.free.freeL, entV, entL, str, int, free_u8, Bool.and_self]) el ?_
  cases c2 : lightV [e] 1 5000
  · repeat (first | refine wA ?_ | refine wB ?_ | refine wC rfl ?_ | refine wD rfl ?_ | refine wE ?_ | refine wF (by omega) ?_ | ((first | refine wG ?_ | refine wH ?_ | refine wI ?_ | refine wJ ?_ | refine wK ?_ | refine wL ?_); simp (disch := omega) only [wP, wZ, undef, UInt8.reduceToNat, Nat.reduceOr, Nat.reduceAnd, Nat.reduceXor, Nat.reduceDiv, if_pos, if_neg, aStore, frz, AV.flat, ↓reduceIte, ne_eq, reduceCtorEq, Int.reduceToNat, Nat.reduceEqDiff, Nat.reduceAdd, Nat.reduceSub, Nat.reduceMul, Int.reduceAdd, Int.reduceMul, Int.reduceSub, Int.reduceLT, Int.reduceLE, Int.reduceEq, Int.reduceNe, Nat.reduceLeDiff, Nat.reduceLT, Int.reduceNeg, Nat.reducePow, Nat.reduceMod, ByteArray.size, boo]))
    done
  obtain ⟨l1, l2⟩ := light_S (by decide) c1
  have le := (light_S (by decide) c2).2 e (by simp)
  have hfl : AV.free.freeL [.sl nl (some 10) (l.map entV)] = true := by simp only [AV.free.freeL, AV.free, free_ents, Bool.and_self]
  repeat (first | refine wA ?_ | refine wB ?_ | refine wC rfl ?_ | refine wD rfl ?_ | refine wE ?_ | refine wF (by omega) ?_ | ((first | refine wG ?_ | refine wH ?_ | refine wI ?_ | refine wJ ?_ | refine wK ?_ | refine wL ?_); simp (disch := omega) only [wP, wZ, undef, UInt8.reduceToNat, Nat.reduceOr, Nat.reduceAnd, Nat.reduceXor, Nat.reduceDiv, if_pos, if_neg, aStore, frz, AV.flat, ↓reduceIte, ne_eq, reduceCtorEq, Int.reduceToNat, Nat.reduceEqDiff, Nat.reduceAdd, Nat.reduceSub, Nat.reduceMul, Int.reduceAdd, Int.reduceMul, Int.reduceSub, Int.reduceLT, Int.reduceLE, Int.reduceEq, Int.reduceNe, Nat.reduceLeDiff, Nat.reduceLT, Int.reduceNeg, Nat.reducePow, Nat.reduceMod, ByteArray.size, boo]))
  refine goC_p _ (.inl ⟨hfl, CheckAll_c caOk nl l (by omega) (fun y hy => ⟨l2 y hy, hi y hy⟩)⟩) ?_
  have r2 := ref_CheckAll_c nl l (by omega) l2
  obtain ⟨V, hV⟩ : ∃ V, V = chkAll l := ⟨_, rfl⟩
  rw [← hV] at r2 ⊢
  repeat (first | refine wA ?_ | refine wB ?_ | refine wC rfl ?_ | refine wD rfl ?_ | refine wE ?_ | refine wF (by omega) ?_ | ((first | refine wG ?_ | refine wH ?_ | refine wI ?_ | refine wJ ?_ | refine wK ?_ | refine wL ?_); simp (disch := omega) only [wP, wZ, undef, UInt8.reduceToNat, Nat.reduceOr, Nat.reduceAnd, Nat.reduceXor, Nat.reduceDiv, if_pos, if_neg, aStore, frz, AV.flat, ↓reduceIte, ne_eq, reduceCtorEq, Int.reduceToNat, Nat.reduceEqDiff, Nat.reduceAdd, Nat.reduceSub, Nat.reduceMul, Int.reduceAdd, Int.reduceMul, Int.reduceSub, Int.reduceLT, Int.reduceLE, Int.reduceEq, Int.reduceNe, Nat.reduceLeDiff, Nat.reduceLT, Int.reduceNeg, Nat.reducePow, Nat.reduceMod, ByteArray.size]))
  refine goC_p _ (.inl ⟨hfl, r2⟩) ?_
  repeat (first | refine wA ?_ | refine wB ?_ | refine wC rfl ?_ | refine wD rfl ?_ | refine wE ?_ | refine wF (by omega) ?_ | ((first | refine wG ?_ | refine wH ?_ | refine wI ?_ | refine wJ ?_ | refine wK ?_ | refine wL ?_); simp (disch := omega) only [wP, wZ, undef, UInt8.reduceToNat, Nat.reduceOr, Nat.reduceAnd, Nat.reduceXor, Nat.reduceDiv, if_pos, if_neg, aStore, frz, AV.flat, ↓reduceIte, ne_eq, reduceCtorEq, Int.reduceToNat, Nat.reduceEqDiff, Nat.reduceAdd, Nat.reduceSub, Nat.reduceMul, Int.reduceAdd, Int.reduceMul, Int.reduceSub, Int.reduceLT, Int.reduceLE, Int.reduceEq, Int.reduceNe, Nat.reduceLeDiff, Nat.reduceLT, Int.reduceNeg, Nat.reducePow, Nat.reduceMod, ByteArray.size]))
  refine goC_p _ (.inl ⟨free_entV, Check_c caOk e le⟩) ?_
  have r3 := ref_Check_c e le
  obtain ⟨C, hC⟩ : ∃ C, C = chk e := ⟨_, rfl⟩
  rw [← hC] at r3 ⊢
  repeat (first | refine wA ?_ | refine wB ?_ | refine wC rfl ?_ | refine wD rfl ?_ | refine wE ?_ | refine wF (by omega) ?_ | ((first | refine wG ?_ | refine wH ?_ | refine wI ?_ | refine wJ ?_ | refine wK ?_ | refine wL ?_); simp (disch := omega) only [wP, wZ, undef, UInt8.reduceToNat, Nat.reduceOr, Nat.reduceAnd, Nat.reduceXor, Nat.reduceDiv, if_pos, if_neg, aStore, frz, AV.flat, ↓reduceIte, ne_eq, reduceCtorEq, Int.reduceToNat, Nat.reduceEqDiff, Nat.reduceAdd, Nat.reduceSub, Nat.reduceMul, Int.reduceAdd, Int.reduceMul, Int.reduceSub, Int.reduceLT, Int.reduceLE, Int.reduceEq, Int.reduceNe, Nat.reduceLeDiff, Nat.reduceLT, Int.reduceNeg, Nat.reducePow, Nat.reduceMod, ByteArray.size]))
  refine goC_p _ (.inl ⟨free_entV, r3⟩) ?_
  repeat (first | refine wA ?_ | refine wB ?_ | refine wC rfl ?_ | refine wD rfl ?_ | refine wE ?_ | refine wF (by omega) ?_ | ((first | refine wG ?_ | refine wH ?_ | refine wI ?_ | refine wJ ?_ | refine wK ?_ | refine wL ?_); simp (disch := omega) only [wP, wZ, undef, UInt8.reduceToNat, Nat.reduceOr, Nat.reduceAnd, Nat.reduceXor, Nat.reduceDiv, if_pos, if_neg, aStore, frz, AV.flat, ↓reduceIte, ne_eq, reduceCtorEq, Int.reduceToNat, Nat.reduceEqDiff, Nat.reduceAdd, Nat.reduceSub, Nat.reduceMul, Int.reduceAdd, Int.reduceMul, Int.reduceSub, Int.reduceLT, Int.reduceLE, Int.reduceEq, Int.reduceNe, Nat.reduceLeDiff, Nat.reduceLT, Int.reduceNeg, Nat.reducePow, Nat.reduceMod, ByteArray.size, boo, eq_self_iff_true, decide_true]))
end Go.Proofs.YtbmmdkbinlnogaaDoor.Aw
namespace Go.Proofs.YtbmmdkbinlnogaaDoor.Aw
open Go
set_option linter.unusedSimpArgs false
set_option linter.unusedVariables false
def liP (i : Nat) : List UInt8 := [UInt8.ofNat (97 + i % 16), UInt8.ofNat (97 + i / 16 % 16), UInt8.ofNat (97 + i / 256)]
def liE (i : Nat) : Ent := ⟨liP i, 1, 0, 0, 0, [], [], 0, [], true, []⟩
def liL (n : Nat) : List Ent := (List.range n).map liE
theorem ofNat_toNat {n : Nat} (h : n < 256) : (UInt8.ofNat n).toNat = n := by simp; omega
theorem path3 {a b c : UInt8} (ha : 97 ≤ a.toNat) (hb : 97 ≤ b.toNat) (hc : 97 ≤ c.toNat) : pathOk [a, b, c] = true := by
  have n : ∀ {x : UInt8} {k : Nat}, 97 ≤ x.toNat → k < 97 → x ≠ UInt8.ofNat k := fun {x k} h hk e => by
    rw [e, ofNat_toNat (by omega)] at h
    omega
  have a0 : a ≠ 0 := n (k := 0) ha (by omega)
  have b0 : b ≠ 0 := n (k := 0) hb (by omega)
  have c0 : c ≠ 0 := n (k := 0) hc (by omega)
  have a1 : a ≠ 47 := n (k := 47) ha (by omega)
  have b1 : b ≠ 47 := n (k := 47) hb (by omega)
  have c1 : c ≠ 47 := n (k := 47) hc (by omega)
  have e1 : Lib.indexByte [a, b, c] 0 = -1 := by simp [Lib.indexByte, a0, b0, c0]
  have e2 : cutL 47 [a, b, c] = [[a, b, c]] := by simp [cutL, a1, b1, c1]
  rw [pathOk, e1, e2]
  simp [partOk]
theorem liP_ok {i : Nat} (h : i ≤ 4100) : pathOk (liP i) = true := by
  refine path3 ?_ ?_ ?_ <;> rw [ofNat_toNat (by omega)] <;> omega
theorem liP_inj {i j : Nat} (hi : i ≤ 4100) (hj : j ≤ 4100) (h : liP i = liP j) : i = j := by
  simp only [liP, List.cons.injEq, and_true] at h
  obtain ⟨h1, h2, h3⟩ := h
  have h1 := congrArg UInt8.toNat h1
  have h2 := congrArg UInt8.toNat h2
  have h3 := congrArg UInt8.toNat h3
  rw [ofNat_toNat (by omega), ofNat_toNat (by omega)] at h1 h2 h3
  omega
theorem liE_chk {i : Nat} (h : i ≤ 4100) : chk (liE i) = 0 := by
  have e : pathOk (liE i).path = true := liP_ok h
  rw [chk, if_pos e]
  rfl
theorem liL_len {n : Nat} : (liL n).length = n := by simp [liL]
theorem liL_get {n k : Nat} (h : k < (liL n).length) : (liL n)[k] = liE k := by simp [liL]
theorem badAt_zero : ∀ {r a : List Ent} {i : Nat}, (badAt a r i).2 = 0 → badAt a r i = (0, 0)
  | [], _, _, _ => rfl
  | e :: r, a, i, h => by
    rw [badAt] at h ⊢
    by_cases c : badE a e = 0
    · rw [if_pos c] at h ⊢
      exact badAt_zero h
    · rw [if_neg c] at h
      exact absurd h c
theorem chk_li {n : Nat} (h : n ≤ 4098) : chkAll (liL n) = if 4096 < n then (4096, 4) else (0, 0) := by
  by_cases c : 4096 < n
  · rw [if_pos c, chkAll, if_pos (by rw [liL_len]; exact c)]
  · rw [if_neg c]
    have h0 : (chkAll (liL n)).2 = 0 := by
      refine chkAll_ok.2 ⟨by rw [liL_len]; omega, fun k hk' => ?_⟩
      have hk : k < n := by rw [liL_len] at hk'; exact hk'
      rw [liL_get hk']
      have hp : posOf (liE k).path ((liL n).take k) < 0 := by
        rw [posOf_none]
        · decide
        intro e he
        rw [List.mem_take_iff_getElem] at he
        obtain ⟨j, hj, rfl⟩ := he
        have hj' : j < k ∧ j < n := by rw [liL_len] at hj; omega
        rw [liL_get (by rw [liL_len]; omega)]
        intro e
        have := liP_inj (by omega) (by omega) e
        omega
      have hf : ((liL n).take k).all (fitsB (liE k)) = true := by
        rw [List.all_eq_true]
        intro e he
        rw [List.mem_take_iff_getElem] at he
        obtain ⟨j, hj, rfl⟩ := he
        have hj' : j < k ∧ j < n := by rw [liL_len] at hj; omega
        rw [liL_get (by rw [liL_len]; omega)]
        simp [fitsB, abv, liE, liP]
      rw [badE, if_pos (liE_chk (by omega)), if_pos hp, if_neg (show ¬ (liE k).kind = 4 by simp [liE]), clash, if_pos hf]
    rw [chkAll, if_neg (by rw [liL_len]; exact c)] at h0 ⊢
    exact badAt_zero h0
theorem liL_succ {n : Nat} : liL (n + 1) = liL n ++ [liE n] := by simp [liL, List.range_succ]
theorem liL_S {n : Nat} : ∀ e ∈ liL n, entS e ∧ entI e := by
  intro e he
  obtain ⟨i, _, rfl⟩ := List.mem_map.1 he
  exact ⟨⟨by simp [liE, liP], by simp [liE], by simp [liE], by simp [liE], by simp [liE]⟩, by simp [liE, entI, inI]⟩
def liD (n : Nat) : Ent := ⟨[97], 1, 0, 0, 0, [], [], 0, [], false, List.replicate n 0⟩
theorem chk_liD {n : Nat} : chk (liD n) = if n ≤ 1048576 then 0 else 4 := by
  have e1 : pathOk (liD n).path = true := by rfl
  have e2 : (liD n).data.length = n := by simp [liD]
  rw [chk, if_pos e1]
  show (if (liD n).data.length ≤ 1048576 then (0 : Int) else 4) = _
  rw [e2]
theorem rep_u8 {n : Nat} : (List.replicate n [AV.sc (.int .u8 0)]).flatten = (List.replicate n (0 : UInt8)).map u8 := by
  induction n with
  | zero => rfl
  | succ n ih => rw [List.replicate_succ, List.flatten_cons, ih, List.replicate_succ]; rfl
set_option maxHeartbeats 4000000 in
set_option maxRecDepth 100000 in
theorem EntryLimits_law [Tabs Tryd.prog] (x : Int) (hx : IntKind.i64.min ≤ x) (hy : x ≤ IntKind.i64.max) : Con Tryd.prog n_drayagelaw07_EntryLimits [int x] (boo true) := by
  refine Con.of' mix Tryd.func5 rfl Tryd.ntmps5 e_drayagelaw07_EntryLimits r_drayagelaw07_EntryLimits (by simp) rfl rfl ?_
  unfold s_drayagelaw07_EntryLimits
  repeat (first | refine wA ?_ | refine wB ?_ | refine wC rfl ?_ | refine wD rfl ?_ | refine wE ?_ | refine wF (by omega) ?_ | ((first | refine wG ?_ | refine wH ?_ | refine wI ?_ | refine wJ ?_ | refine wK ?_ | refine wL ?_); simp (disch := omega) only [wP, wZ, undef, UInt8.reduceToNat, Nat.reduceOr, Nat.reduceAnd, Nat.reduceXor, Nat.reduceDiv, if_pos, if_neg, aStore, frz, AV.flat, ↓reduceIte, ne_eq, reduceCtorEq, Int.reduceToNat, Nat.reduceEqDiff, Nat.reduceAdd, Nat.reduceSub, Nat.reduceMul, Int.reduceAdd, Int.reduceMul, Int.reduceSub, Int.reduceLT, Int.reduceLE, Int.reduceEq, Int.reduceNe, Nat.reduceLeDiff, Nat.reduceLT, Int.reduceNeg, Nat.reducePow, Nat.reduceMod, ByteArray.size]))
  refine goC_p _ (.inl ⟨rfl, awake7_c⟩) ?_
  by_cases c1 : x < -2
  · have d1 : decide (x < -2) = true := decide_eq_true c1
    repeat (first | refine wA ?_ | refine wB ?_ | refine wC rfl ?_ | refine wD rfl ?_ | refine wE ?_ | refine wF (by omega) ?_ | ((first | refine wG ?_ | refine wH ?_ | refine wI ?_ | refine wJ ?_ | refine wK ?_ | refine wL ?_); simp (disch := omega) only [wP, wZ, undef, UInt8.reduceToNat, Nat.reduceOr, Nat.reduceAnd, Nat.reduceXor, Nat.reduceDiv, if_pos, if_neg, aStore, frz, AV.flat, ↓reduceIte, ne_eq, reduceCtorEq, Int.reduceToNat, Nat.reduceEqDiff, Nat.reduceAdd, Nat.reduceSub, Nat.reduceMul, Int.reduceAdd, Int.reduceMul, Int.reduceSub, Int.reduceLT, Int.reduceLE, Int.reduceEq, Int.reduceNe, Nat.reduceLeDiff, Nat.reduceLT, Int.reduceNeg, Nat.reducePow, Nat.reduceMod, ByteArray.size, boo, d1]))
    done
  have d1 : decide (x < -2) = false := decide_eq_false c1
  by_cases c2 : 2 < x
  · have d2 : decide (2 < x) = true := decide_eq_true c2
    repeat (first | refine wA ?_ | refine wB ?_ | refine wC rfl ?_ | refine wD rfl ?_ | refine wE ?_ | refine wF (by omega) ?_ | ((first | refine wG ?_ | refine wH ?_ | refine wI ?_ | refine wJ ?_ | refine wK ?_ | refine wL ?_); simp (disch := omega) only [wP, wZ, undef, UInt8.reduceToNat, Nat.reduceOr, Nat.reduceAnd, Nat.reduceXor, Nat.reduceDiv, if_pos, if_neg, aStore, frz, AV.flat, ↓reduceIte, ne_eq, reduceCtorEq, Int.reduceToNat, Nat.reduceEqDiff, Nat.reduceAdd, Nat.reduceSub, Nat.reduceMul, Int.reduceAdd, Int.reduceMul, Int.reduceSub, Int.reduceLT, Int.reduceLE, Int.reduceEq, Int.reduceNe, Nat.reduceLeDiff, Nat.reduceLT, Int.reduceNeg, Nat.reducePow, Nat.reduceMod, ByteArray.size, boo, d1, d2]))
    done
  have d2 : decide (2 < x) = false := decide_eq_false c2
  obtain ⟨D, hD⟩ : ∃ D : Nat, 1048576 + x = (D : Int) := ⟨(1048576 + x).toNat, by omega⟩
  obtain ⟨N, hN⟩ : ∃ N : Nat, 4096 + x = (N : Int) := ⟨(4096 + x).toNat, by omega⟩
  have hcon := Check_c caOk (liD D) ⟨by simp [liD], by simp [liD], by simp [liD], by simp [liD], by simp [liD]; omega⟩
  rw [chk_liD] at hcon
  have hfr : AV.free.freeL [entV (liD D)] = true := free_entV
  have htk : ((List.replicate D (0 : UInt8)).map u8).take D = (List.replicate D (0 : UInt8)).map u8 := List.take_of_length_le (by simp)
  obtain ⟨W, hW⟩ : ∃ W : Int, W = if D ≤ 1048576 then 0 else 4 := ⟨_, rfl⟩
  rw [← hW] at hcon
  have hl9 := chk_li (n := N) (by omega)
  obtain ⟨V, hV⟩ : ∃ V, V = chkAll (liL N) := ⟨_, rfl⟩
  rw [← hV] at hl9
  by_cases c3 : 0 < x
  case' pos =>
    have d3 : decide (0 < x) = true := decide_eq_true c3
    have hW4 : W = 4 := by rw [hW, if_neg (by omega)]
    have hq : decide (W = 4) = true := decide_eq_true hW4
    rw [if_pos (by omega)] at hl9
    repeat (first | refine wA ?_ | refine wB ?_ | refine wC rfl ?_ | refine wD rfl ?_ | refine wE ?_ | refine wF (by omega) ?_ | ((first | refine wG ?_ | refine wH ?_ | refine wI ?_ | refine wJ ?_ | refine wK ?_ | refine wL ?_); simp (disch := omega) only [wP, wZ, undef, UInt8.reduceToNat, Nat.reduceOr, Nat.reduceAnd, Nat.reduceXor, Nat.reduceDiv, if_pos, if_neg, aStore, frz, AV.flat, ↓reduceIte, ne_eq, reduceCtorEq, Int.reduceToNat, Nat.reduceEqDiff, Nat.reduceAdd, Nat.reduceSub, Nat.reduceMul, Int.reduceAdd, Int.reduceMul, Int.reduceSub, Int.reduceLT, Int.reduceLE, Int.reduceEq, Int.reduceNe, Nat.reduceLeDiff, Nat.reduceLT, Int.reduceNeg, Nat.reducePow, Nat.reduceMod, ByteArray.size, boo, d1, d2, d3, hD, rep_u8]))
  case' neg =>
    have d3 : decide (0 < x) = false := decide_eq_false c3
    have hW4 : W = 0 := by rw [hW, if_pos (by omega)]
    have hq : decide (W = 0) = true := decide_eq_true hW4
    rw [if_neg (by omega)] at hl9
    repeat (first | refine wA ?_ | refine wB ?_ | refine wC rfl ?_ | refine wD rfl ?_ | refine wE ?_ | refine wF (by omega) ?_ | ((first | refine wG ?_ | refine wH ?_ | refine wI ?_ | refine wJ ?_ | refine wK ?_ | refine wL ?_); simp (disch := omega) only [wP, wZ, undef, UInt8.reduceToNat, Nat.reduceOr, Nat.reduceAnd, Nat.reduceXor, Nat.reduceDiv, if_pos, if_neg, aStore, frz, AV.flat, ↓reduceIte, ne_eq, reduceCtorEq, Int.reduceToNat, Nat.reduceEqDiff, Nat.reduceAdd, Nat.reduceSub, Nat.reduceMul, Int.reduceAdd, Int.reduceMul, Int.reduceSub, Int.reduceLT, Int.reduceLE, Int.reduceEq, Int.reduceNe, Nat.reduceLeDiff, Nat.reduceLT, Int.reduceNeg, Nat.reducePow, Nat.reduceMod, ByteArray.size, boo, d1, d2, d3, hD, rep_u8]))
  all_goals
    refine goC_p (int W) (.inr ⟨rfl, ?_, ?_⟩) ?_
    · simp (disch := omega) only [wP, wZ, undef, UInt8.reduceToNat, Nat.reduceOr, Nat.reduceAnd, Nat.reduceXor, Nat.reduceDiv, if_pos, if_neg, aStore, frz, AV.flat, ↓reduceIte, ne_eq, reduceCtorEq, Int.reduceToNat, Nat.reduceEqDiff, Nat.reduceAdd, Nat.reduceSub, Nat.reduceMul, Int.reduceAdd, Int.reduceMul, Int.reduceSub, Int.reduceLT, Int.reduceLE, Int.reduceEq, Int.reduceNe, Nat.reduceLeDiff, Nat.reduceLT, Int.reduceNeg, Nat.reducePow, Nat.reduceMod, ByteArray.size, htk, chunks, List.drop_zero, AV.free.freeL, AV.free, free_u8, Bool.and_self, List.length_replicate, Nat.le_refl]
    · simp (disch := omega) only [wP, wZ, undef, UInt8.reduceToNat, Nat.reduceOr, Nat.reduceAnd, Nat.reduceXor, Nat.reduceDiv, if_pos, if_neg, aStore, frz, AV.flat, ↓reduceIte, ne_eq, reduceCtorEq, Int.reduceToNat, Nat.reduceEqDiff, Nat.reduceAdd, Nat.reduceSub, Nat.reduceMul, Int.reduceAdd, Int.reduceMul, Int.reduceSub, Int.reduceLT, Int.reduceLE, Int.reduceEq, Int.reduceNe, Nat.reduceLeDiff, Nat.reduceLT, Int.reduceNeg, Nat.reducePow, Nat.reduceMod, ByteArray.size, htk, chunks, List.drop_zero, List.length_replicate, Nat.le_refl]
      exact hcon
    repeat (first | refine wA ?_ | refine wB ?_ | refine wC rfl ?_ | refine wD rfl ?_ | refine wE ?_ | refine wF (by omega) ?_ | ((first | refine wG ?_ | refine wH ?_ | refine wI ?_ | refine wJ ?_ | refine wK ?_ | refine wL ?_); simp (disch := omega) only [wP, wZ, undef, UInt8.reduceToNat, Nat.reduceOr, Nat.reduceAnd, Nat.reduceXor, Nat.reduceDiv, if_pos, if_neg, aStore, frz, AV.flat, ↓reduceIte, ne_eq, reduceCtorEq, Int.reduceToNat, Nat.reduceEqDiff, Nat.reduceAdd, Nat.reduceSub, Nat.reduceMul, Int.reduceAdd, Int.reduceMul, Int.reduceSub, Int.reduceLT, Int.reduceLE, Int.reduceEq, Int.reduceNe, Nat.reduceLeDiff, Nat.reduceLT, Int.reduceNeg, Nat.reducePow, Nat.reduceMod, ByteArray.size, hq, Bool.not_true]))
    refine SWp.le (st' := mk 76 2 [(0, int x), (4, int W), (5, .sc (.slice none 0 0)), (6, int 0)] []) (le_mk rfl ?_ ?_ ?_) ?_
    · exact Nat.le_refl _
    iterate 2 (case _ => simp (disch := omega) only [wP, wZ, undef, UInt8.reduceToNat, Nat.reduceOr, Nat.reduceAnd, Nat.reduceXor, Nat.reduceDiv, if_pos, if_neg, aStore, frz, AV.flat, ↓reduceIte, ne_eq, reduceCtorEq, Int.reduceToNat, Nat.reduceEqDiff, Nat.reduceAdd, Nat.reduceSub, Nat.reduceMul, Int.reduceAdd, Int.reduceMul, Int.reduceSub, Int.reduceLT, Int.reduceLE, Int.reduceEq, Int.reduceNe, Nat.reduceLeDiff, Nat.reduceLT, Int.reduceNeg, Nat.reducePow, Nat.reduceMod, ByteArray.size, hW4])
    refine SWp.adopt 5 (some 10) (by simp (disch := omega) only [wP, wZ, undef, UInt8.reduceToNat, Nat.reduceOr, Nat.reduceAnd, Nat.reduceXor, Nat.reduceDiv, if_pos, if_neg, aStore, frz, AV.flat, ↓reduceIte, ne_eq, reduceCtorEq, Int.reduceToNat, Nat.reduceEqDiff, Nat.reduceAdd, Nat.reduceSub, Nat.reduceMul, Int.reduceAdd, Int.reduceMul, Int.reduceSub, Int.reduceLT, Int.reduceLE, Int.reduceEq, Int.reduceNe, Nat.reduceLeDiff, Nat.reduceLT, Int.reduceNeg, Nat.reducePow, Nat.reduceMod, ByteArray.size]) ?_
    refine SWp.loop (α := Nat × Nat × Nat) (fun z => mk 76 z.2.2 [(0, int x), (4, int W), (5, .own 5 z.2.1 (some 10) 0 z.1), (6, int z.1)] [(5, z.2.1, .row (nl0 z.1) (enC (liL z.1)))])
      (fun z => z.1 ≤ N) (fun z => N - z.1) (0, 2, 3) (Nat.zero_le _) (le_mk rfl ?_ ?_ ?_) ?_
    · exact Nat.le_refl _
    · simp (disch := omega) only [wP, wZ, undef, UInt8.reduceToNat, Nat.reduceOr, Nat.reduceAnd, Nat.reduceXor, Nat.reduceDiv, if_pos, if_neg, aStore, frz, AV.flat, ↓reduceIte, ne_eq, reduceCtorEq, Int.reduceToNat, Nat.reduceEqDiff, Nat.reduceAdd, Nat.reduceSub, Nat.reduceMul, Int.reduceAdd, Int.reduceMul, Int.reduceSub, Int.reduceLT, Int.reduceLE, Int.reduceEq, Int.reduceNe, Nat.reduceLeDiff, Nat.reduceLT, Int.reduceNeg, Nat.reducePow, Nat.reduceMod, ByteArray.size]
    · simp (disch := omega) only [wP, wZ, undef, UInt8.reduceToNat, Nat.reduceOr, Nat.reduceAnd, Nat.reduceXor, Nat.reduceDiv, if_pos, if_neg, aStore, frz, AV.flat, ↓reduceIte, ne_eq, reduceCtorEq, Int.reduceToNat, Nat.reduceEqDiff, Nat.reduceAdd, Nat.reduceSub, Nat.reduceMul, Int.reduceAdd, Int.reduceMul, Int.reduceSub, Int.reduceLT, Int.reduceLE, Int.reduceEq, Int.reduceNe, Nat.reduceLeDiff, Nat.reduceLT, Int.reduceNeg, Nat.reducePow, Nat.reduceMod, ByteArray.size, nl0_zero, show enC (liL 0) = [] from rfl]
    rintro ⟨k, g, c⟩ hk -
    simp only at hk
    by_cases hk' : k < N
    case pos =>
      have dk : decide ((k : Int) < (N : Int)) = true := decide_eq_true (by omega)
      have u : ∀ n : Nat, n < 159 → unu8 (.sc (.int .u8 (97 + (n : Int)))) = UInt8.ofNat (97 + n) := fun n h => by
        simp only [unu8]
        first | rfl | (congr 1; omega)
      have v : ∀ n : Nat, n < 159 → ((UInt8.ofNat (97 + n)).toNat : Int) = 97 + (n : Int) := fun n h => by rw [ofNat_toNat (by omega)]; omega
      have u1 := u (k % 16) (by omega)
      have u2 := u (k / 16 % 16) (by omega)
      have u3 := u (k / 256) (by omega)
      have v1 := v (k % 16) (by omega)
      have v2 := v (k / 16 % 16) (by omega)
      have v3 := v (k / 256) (by omega)
      repeat (first | refine wA ?_ | refine wB ?_ | refine wC rfl ?_ | refine wD rfl ?_ | refine wE ?_ | refine wF (by omega) ?_ | ((first | refine wG ?_ | refine wH ?_ | refine wI ?_ | refine wJ ?_ | refine wK ?_ | refine wL ?_); simp (disch := omega) only [wP, wZ, undef, UInt8.reduceToNat, Nat.reduceOr, Nat.reduceAnd, Nat.reduceXor, Nat.reduceDiv, if_pos, if_neg, aStore, frz, AV.flat, ↓reduceIte, ne_eq, reduceCtorEq, Int.reduceToNat, Nat.reduceEqDiff, Nat.reduceAdd, Nat.reduceSub, Nat.reduceMul, Int.reduceAdd, Int.reduceMul, Int.reduceSub, Int.reduceLT, Int.reduceLE, Int.reduceEq, Int.reduceNe, Nat.reduceLeDiff, Nat.reduceLT, Int.reduceNeg, Nat.reducePow, Nat.reduceMod, ByteArray.size, hN, dk, u1, u2, u3, v1, v2, v3]))
      refine ⟨⟨_, rfl, rfl⟩, ⟨fun y hy => ⟨_, List.mem_singleton.1 hy⟩, by rw [length_enC, liL_len], by omega, by omega⟩, ?_⟩
      refine SWp.reread 5 (c + 1) (nl := false) (cells := (enC (liL k) ++ [str (liP k), int 1, int 0, int 0, int 0, str [], str [], int 0, str []]) ++ .sc (.slice none 0 0) :: []) (enC (liL (k + 1))) ?_ (fun c h => glL_of_free _ _ free_enC) (fun h => by simp at h) (fun G w vs h => ?_) ?_
      · simp (disch := omega) only [wP, wZ, undef, UInt8.reduceToNat, Nat.reduceOr, Nat.reduceAnd, Nat.reduceXor, Nat.reduceDiv, if_pos, if_neg, aStore, frz, AV.flat, ↓reduceIte, ne_eq, reduceCtorEq, Int.reduceToNat, Nat.reduceEqDiff, Nat.reduceAdd, Nat.reduceSub, Nat.reduceMul, Int.reduceAdd, Int.reduceMul, Int.reduceSub, Int.reduceLT, Int.reduceLE, Int.reduceEq, Int.reduceNe, Nat.reduceLeDiff, Nat.reduceLT, Int.reduceNeg, Nat.reducePow, Nat.reduceMod, ByteArray.size, liP, List.flatMap_cons, List.flatMap_nil, cellsA, Option.getD_some, List.append_nil, List.cons_append, List.nil_append, List.append_assoc]
      · have h2 := nil_rd (es := none) h
        rw [liL_succ, ← enC_append]
        simpa [enC, entL, liE] using h2
      repeat (first | refine wA ?_ | refine wB ?_ | refine wC rfl ?_ | refine wD rfl ?_ | refine wE ?_ | refine wF (by omega) ?_ | ((first | refine wG ?_ | refine wH ?_ | refine wI ?_ | refine wJ ?_ | refine wK ?_ | refine wL ?_); simp (disch := omega) only [wP, wZ, undef, UInt8.reduceToNat, Nat.reduceOr, Nat.reduceAnd, Nat.reduceXor, Nat.reduceDiv, if_pos, if_neg, aStore, frz, AV.flat, ↓reduceIte, ne_eq, reduceCtorEq, Int.reduceToNat, Nat.reduceEqDiff, Nat.reduceAdd, Nat.reduceSub, Nat.reduceMul, Int.reduceAdd, Int.reduceMul, Int.reduceSub, Int.reduceLT, Int.reduceLE, Int.reduceEq, Int.reduceNe, Nat.reduceLeDiff, Nat.reduceLT, Int.reduceNeg, Nat.reducePow, Nat.reduceMod, ByteArray.size]))
      refine At.of (k + 1, c + 1, c + 2) (by simp only; omega) (by simp only; omega) rfl rfl (Nat.le_refl _) ?_ ?_
      iterate 2 (case _ => simp (disch := omega) only [wP, wZ, undef, UInt8.reduceToNat, Nat.reduceOr, Nat.reduceAnd, Nat.reduceXor, Nat.reduceDiv, if_pos, if_neg, aStore, frz, AV.flat, ↓reduceIte, ne_eq, reduceCtorEq, Int.reduceToNat, Nat.reduceEqDiff, Nat.reduceAdd, Nat.reduceSub, Nat.reduceMul, Int.reduceAdd, Int.reduceMul, Int.reduceSub, Int.reduceLT, Int.reduceLE, Int.reduceEq, Int.reduceNe, Nat.reduceLeDiff, Nat.reduceLT, Int.reduceNeg, Nat.reducePow, Nat.reduceMod, ByteArray.size, nl0_succ])
    case neg =>
      have dk : decide ((k : Int) < (N : Int)) = false := decide_eq_false (by omega)
      have hkN : k = N := by omega
      subst hkN
      have hca := CheckAll_c caOk (nl0 k) (liL k) (by rw [liL_len]; omega) liL_S
      rw [← hV] at hca
      have hch : chunks (some 10) k (enC (liL k)) = (liL k).map entV := by
        have := chunks_enC (l := liL k)
        rw [liL_len] at this
        exact this
      have hfe : AV.free.freeL ((liL k).map entV) = true := free_ents
      have hle : k * 10 ≤ (enC (liL k)).length := by rw [length_enC, liL_len]; exact Nat.le_refl _
      repeat (first | refine wA ?_ | refine wB ?_ | refine wC rfl ?_ | refine wD rfl ?_ | refine wE ?_ | refine wF (by omega) ?_ | ((first | refine wG ?_ | refine wH ?_ | refine wI ?_ | refine wJ ?_ | refine wK ?_ | refine wL ?_); simp (disch := omega) only [wP, wZ, undef, UInt8.reduceToNat, Nat.reduceOr, Nat.reduceAnd, Nat.reduceXor, Nat.reduceDiv, if_pos, if_neg, aStore, frz, AV.flat, ↓reduceIte, ne_eq, reduceCtorEq, Int.reduceToNat, Nat.reduceEqDiff, Nat.reduceAdd, Nat.reduceSub, Nat.reduceMul, Int.reduceAdd, Int.reduceMul, Int.reduceSub, Int.reduceLT, Int.reduceLE, Int.reduceEq, Int.reduceNe, Nat.reduceLeDiff, Nat.reduceLT, Int.reduceNeg, Nat.reducePow, Nat.reduceMod, ByteArray.size, hN, dk]))
      refine goC_p (.tup [int V.1, int V.2]) (.inr ⟨rfl, ?_, ?_⟩) ?_
      · simp (disch := omega) only [wP, wZ, undef, UInt8.reduceToNat, Nat.reduceOr, Nat.reduceAnd, Nat.reduceXor, Nat.reduceDiv, if_pos, if_neg, aStore, frz, AV.flat, ↓reduceIte, ne_eq, reduceCtorEq, Int.reduceToNat, Nat.reduceEqDiff, Nat.reduceAdd, Nat.reduceSub, Nat.reduceMul, Int.reduceAdd, Int.reduceMul, Int.reduceSub, Int.reduceLT, Int.reduceLE, Int.reduceEq, Int.reduceNe, Nat.reduceLeDiff, Nat.reduceLT, Int.reduceNeg, Nat.reducePow, Nat.reduceMod, ByteArray.size, hch, List.drop_zero, hle, AV.free.freeL, AV.free, hfe, Bool.and_self]
      · simp (disch := omega) only [wP, wZ, undef, UInt8.reduceToNat, Nat.reduceOr, Nat.reduceAnd, Nat.reduceXor, Nat.reduceDiv, if_pos, if_neg, aStore, frz, AV.flat, ↓reduceIte, ne_eq, reduceCtorEq, Int.reduceToNat, Nat.reduceEqDiff, Nat.reduceAdd, Nat.reduceSub, Nat.reduceMul, Int.reduceAdd, Int.reduceMul, Int.reduceSub, Int.reduceLT, Int.reduceLE, Int.reduceEq, Int.reduceNe, Nat.reduceLeDiff, Nat.reduceLT, Int.reduceNeg, Nat.reducePow, Nat.reduceMod, ByteArray.size, hch, List.drop_zero, hle]
        exact hca
      rw [hW4, hl9]
      repeat (first | refine wA ?_ | refine wB ?_ | refine wC rfl ?_ | refine wD rfl ?_ | refine wE ?_ | refine wF (by omega) ?_ | ((first | refine wG ?_ | refine wH ?_ | refine wI ?_ | refine wJ ?_ | refine wK ?_ | refine wL ?_); simp (maxSteps := 4000000) (disch := omega) only [wP, wZ, undef, UInt8.reduceToNat, Nat.reduceOr, Nat.reduceAnd, Nat.reduceXor, Nat.reduceDiv, if_pos, if_neg, aStore, frz, AV.flat, ↓reduceIte, ne_eq, reduceCtorEq, Int.reduceToNat, Nat.reduceEqDiff, Nat.reduceAdd, Nat.reduceSub, Nat.reduceMul, Int.reduceAdd, Int.reduceMul, Int.reduceSub, Int.reduceLT, Int.reduceLE, Int.reduceEq, Int.reduceNe, Nat.reduceLeDiff, Nat.reduceLT, Int.reduceNeg, Nat.reducePow, Nat.reduceMod, ByteArray.size, boo]))
end Go.Proofs.YtbmmdkbinlnogaaDoor.Aw
