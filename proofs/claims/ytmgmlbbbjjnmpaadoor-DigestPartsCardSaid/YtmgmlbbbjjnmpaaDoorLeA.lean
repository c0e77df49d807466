/- Contracts: codec.Le. -/
import Derived.Test.YtmgmlbbbjjnmpaaDoorListA
namespace Go.Proofs.YtmgmlbbbjjnmpaaDoor.Aw
open Go
set_option linter.unusedSimpArgs false
set_option linter.unusedVariables false

def leB (n : Nat) (size : Nat) : List UInt8 := (List.range size).map fun i => UInt8.ofNat (n / 2 ^ (8 * i))
/-- The row as far as k bytes are laid. -/
def leK (n size k : Nat) : List AV := (List.range size).map fun i => .sc (.int .u8 (if i < k then ((n / 2 ^ (8 * i) % 256 : Nat) : Int) else 0))
theorem length_leK {n size k : Nat} : (leK n size k).length = size := by simp [leK]
theorem leK_zero (n size : Nat) : (List.replicate size [AV.sc (.int .u8 0)]).flatten = leK n size 0 := by
  apply List.ext_getElem
  · simp [leK]
  · intro i h1 h2
    simp [leK]
theorem leK_set (n size k : Nat) (h : k < size) : (leK n size k).take k ++ (.sc (.int .u8 ((n / 2 ^ (8 * k) % 256 : Nat) : Int)) :: (leK n size k).drop (k + 1)) = leK n size (k + 1) := by
  apply List.ext_getElem
  · simp [leK]; omega
  · intro i h1 h2
    have hi : i < size := by simpa [leK] using h2
    have e : ((leK n size k).take k).length = k := by simp [leK]; omega
    rw [List.getElem_append]
    split
    · rename_i hlt
      rw [e] at hlt
      simp [leK, hlt, show i < k + 1 by omega]
    · rename_i hge
      rw [e] at hge
      rw [List.getElem_cons]
      split
      · rename_i h0
        rw [e] at h0
        obtain rfl : i = k := by omega
        simp [leK]
      · rename_i h0
        rw [e] at h0
        have h1 : ¬ i < k := by omega
        have h2 : ¬ i < k + 1 := by omega
        have h3 : ¬ (k + 1 + (i - k - 1) < k) := by omega
        simp only [List.getElem_drop, e]
        simp [leK, h2, h3]
theorem leK_full (n size : Nat) : leK n size size = (leB n size).map u8 := by
  simp only [leK, leB, List.map_map]
  apply List.map_congr_left
  intro i hi
  rw [List.mem_range] at hi
  simp only [Function.comp, u8, if_pos hi, UInt8.toNat_ofNat']
def leR (n : Nat) (size : Int) : AV := if size < 1 ∨ 8 < size then .sc (.slice none 0 0) else .sl false none ((leB n size.toNat).map u8)
theorem toNat_mul_lit {n m : Nat} : ((no_index (@OfNat.ofNat Int m instOfNat)) * (n : Int)).toNat = (@OfNat.ofNat Nat m (instOfNatNat m)) * n := rfl
theorem wrap_u8_nat {n : Nat} : IntKind.u8.wrap (n : Int) = ((n % 256 : Nat) : Int) := by rw [wrap_u8]; rfl

set_option maxRecDepth 100000 in
theorem codec_Le_c [Tabs Tryd.prog] (n : Nat) (hn : n < 18446744073709551616) (size : Int) (h1 : -9223372036854775808 ≤ size) (h2 : size ≤ 9223372036854775807) : Con Tryd.prog n_codec_Le [.sc (.int .u64 n), int size] (leR n size) := by
  refine Con.of' mix Tryd.func35 rfl Tryd.ntmps35 e_codec_Le r_codec_Le (by simp) (by simp [AV.free, AV.free.freeL, int]) (by unfold leR; split <;> simp [AV.free, free_u8]) ?_
  unfold s_codec_Le
  by_cases c1 : size < 1
  · have d1 : decide (size < 1) = true := decide_eq_true c1
    have hu : leR n size = .sc (.slice none 0 0) := if_pos (.inl c1)
    repeat (first | refine SWp.seq ?_ | refine SWp.block ?_ | refine SWp.condT rfl ?_ | refine SWp.condF rfl ?_ | refine LoopAt.next ?_ | refine And.intro (by omega) ?_ | ((first | refine SWp.reg ?_ | refine SWp.skip ?_ | refine SWp.exit ?_ | refine SWp.ret ?_ | refine (fun h => h : AOps _ _ _ _ → AOps _ _ _ _) ?_); simp (disch := omega) only [wX, wY, wR0, wR1, wR2, wR3, wR4, wR5, wR6, wR7, undef, Prod.mk.injEq, Option.some.injEq, eq_self, UInt8.reduceToNat, Nat.reduceOr, Nat.reduceAnd, Nat.reduceXor, Nat.reduceDiv, if_pos, if_neg, aStr, aBeq, aPick, aIsnil, aStrId, aB2s, aS2b, aBound, aSls, aSl, aSla, aFaddr, partA, aFld, aIaddr, aIaddrA, aIdxS, aIdxA, aLoad, aExt, aNilc, aLenS, aLen, splice, aBuild, shA, allSh, aBslice, aIsnilp, aStrz, aBsl, allShW, elemsA, flatOk, aApp, aMks, aStore, aBox, aCopy, frz, frz.frzL, live, chunks, flat, esz, u8, AV.free, AV.free.freeL, AV.flat, AV.flat.flatL, boo, int, str, ↓reduceIte, ne_eq, reduceCtorEq, Int.reduceToNat, Nat.reduceEqDiff, Nat.reduceAdd, Nat.reduceSub, Nat.reduceMul, Int.reduceAdd, Int.reduceMul, Int.reduceSub, Int.reduceLT, Int.reduceLE, Int.reduceEq, Int.reduceNe, Nat.reduceLeDiff, Nat.reduceLT, Int.reduceNeg, Nat.reducePow, Nat.reduceMod, ByteArray.size, d1, hu]))
  · have d1 : decide (size < 1) = false := decide_eq_false c1
    by_cases c2 : 8 < size
    · have d2 : decide (8 < size) = true := decide_eq_true c2
      have hu : leR n size = .sc (.slice none 0 0) := if_pos (.inr c2)
      repeat (first | refine SWp.seq ?_ | refine SWp.block ?_ | refine SWp.condT rfl ?_ | refine SWp.condF rfl ?_ | refine LoopAt.next ?_ | refine And.intro (by omega) ?_ | ((first | refine SWp.reg ?_ | refine SWp.skip ?_ | refine SWp.exit ?_ | refine SWp.ret ?_ | refine (fun h => h : AOps _ _ _ _ → AOps _ _ _ _) ?_); simp (disch := omega) only [wX, wY, wR0, wR1, wR2, wR3, wR4, wR5, wR6, wR7, undef, Prod.mk.injEq, Option.some.injEq, eq_self, UInt8.reduceToNat, Nat.reduceOr, Nat.reduceAnd, Nat.reduceXor, Nat.reduceDiv, if_pos, if_neg, aStr, aBeq, aPick, aIsnil, aStrId, aB2s, aS2b, aBound, aSls, aSl, aSla, aFaddr, partA, aFld, aIaddr, aIaddrA, aIdxS, aIdxA, aLoad, aExt, aNilc, aLenS, aLen, splice, aBuild, shA, allSh, aBslice, aIsnilp, aStrz, aBsl, allShW, elemsA, flatOk, aApp, aMks, aStore, aBox, aCopy, frz, frz.frzL, live, chunks, flat, esz, u8, AV.free, AV.free.freeL, AV.flat, AV.flat.flatL, boo, int, str, ↓reduceIte, ne_eq, reduceCtorEq, Int.reduceToNat, Nat.reduceEqDiff, Nat.reduceAdd, Nat.reduceSub, Nat.reduceMul, Int.reduceAdd, Int.reduceMul, Int.reduceSub, Int.reduceLT, Int.reduceLE, Int.reduceEq, Int.reduceNe, Nat.reduceLeDiff, Nat.reduceLT, Int.reduceNeg, Nat.reducePow, Nat.reduceMod, ByteArray.size, d1, d2, hu]))
    · have d2 : decide (8 < size) = false := decide_eq_false c2
      have hu : leR n size = .sl false none ((leB n size.toNat).map u8) := if_neg (by omega)
      obtain ⟨m, rfl⟩ : ∃ m : Nat, size = m := ⟨size.toNat, by omega⟩
      repeat (first | refine SWp.seq ?_ | refine SWp.block ?_ | refine SWp.condT rfl ?_ | refine SWp.condF rfl ?_ | refine LoopAt.next ?_ | refine And.intro (by omega) ?_ | ((first | refine SWp.reg ?_ | refine SWp.skip ?_ | refine SWp.exit ?_ | refine SWp.ret ?_ | refine (fun h => h : AOps _ _ _ _ → AOps _ _ _ _) ?_); simp (disch := omega) only [wX, wY, wR0, wR1, wR2, wR3, wR4, wR5, wR6, wR7, undef, Prod.mk.injEq, Option.some.injEq, eq_self, UInt8.reduceToNat, Nat.reduceOr, Nat.reduceAnd, Nat.reduceXor, Nat.reduceDiv, if_pos, if_neg, aStr, aBeq, aPick, aIsnil, aStrId, aB2s, aS2b, aBound, aSls, aSl, aSla, aFaddr, partA, aFld, aIaddr, aIaddrA, aIdxS, aIdxA, aLoad, aExt, aNilc, aLenS, aLen, splice, aBuild, shA, allSh, aBslice, aIsnilp, aStrz, aBsl, allShW, elemsA, flatOk, aApp, aMks, aStore, aBox, aCopy, frz, frz.frzL, live, chunks, flat, esz, u8, AV.free, AV.free.freeL, AV.flat, AV.flat.flatL, boo, int, str, ↓reduceIte, ne_eq, reduceCtorEq, Int.reduceToNat, Nat.reduceEqDiff, Nat.reduceAdd, Nat.reduceSub, Nat.reduceMul, Int.reduceAdd, Int.reduceMul, Int.reduceSub, Int.reduceLT, Int.reduceLE, Int.reduceEq, Int.reduceNe, Nat.reduceLeDiff, Nat.reduceLT, Int.reduceNeg, Nat.reducePow, Nat.reduceMod, ByteArray.size, d1, d2, leK_zero n]))
      refine SWp.loop (α := Nat) (fun k => mk 29 1 [(0, .sc (.int .u64 n)), (5, .own 14 0 none 0 m), (15, int m), (16, int k)] [(14, 0, .row false (leK n m k))])
        (fun k => k ≤ m) (fun k => m - k) 0 (Nat.zero_le _) (le_mk rfl ?_ ?_ ?_) ?_
      · exact Nat.le_refl _
      · simp (disch := omega) only [wX, wY, wR0, wR1, wR2, wR3, wR4, wR5, wR6, wR7, undef, Prod.mk.injEq, Option.some.injEq, eq_self, UInt8.reduceToNat, Nat.reduceOr, Nat.reduceAnd, Nat.reduceXor, Nat.reduceDiv, if_pos, if_neg, aStr, aBeq, aPick, aIsnil, aStrId, aB2s, aS2b, aBound, aSls, aSl, aSla, aFaddr, partA, aFld, aIaddr, aIaddrA, aIdxS, aIdxA, aLoad, aExt, aNilc, aLenS, aLen, splice, aBuild, shA, allSh, aBslice, aIsnilp, aStrz, aBsl, allShW, elemsA, flatOk, aApp, aMks, aStore, aBox, aCopy, frz, frz.frzL, live, chunks, flat, esz, u8, AV.free, AV.free.freeL, AV.flat, AV.flat.flatL, boo, int, str, ↓reduceIte, ne_eq, reduceCtorEq, Int.reduceToNat, Nat.reduceEqDiff, Nat.reduceAdd, Nat.reduceSub, Nat.reduceMul, Int.reduceAdd, Int.reduceMul, Int.reduceSub, Int.reduceLT, Int.reduceLE, Int.reduceEq, Int.reduceNe, Nat.reduceLeDiff, Nat.reduceLT, Int.reduceNeg, Nat.reducePow, Nat.reduceMod, ByteArray.size]
      · simp (disch := omega) only [wX, wY, wR0, wR1, wR2, wR3, wR4, wR5, wR6, wR7, undef, Prod.mk.injEq, Option.some.injEq, eq_self, UInt8.reduceToNat, Nat.reduceOr, Nat.reduceAnd, Nat.reduceXor, Nat.reduceDiv, if_pos, if_neg, aStr, aBeq, aPick, aIsnil, aStrId, aB2s, aS2b, aBound, aSls, aSl, aSla, aFaddr, partA, aFld, aIaddr, aIaddrA, aIdxS, aIdxA, aLoad, aExt, aNilc, aLenS, aLen, splice, aBuild, shA, allSh, aBslice, aIsnilp, aStrz, aBsl, allShW, elemsA, flatOk, aApp, aMks, aStore, aBox, aCopy, frz, frz.frzL, live, chunks, flat, esz, u8, AV.free, AV.free.freeL, AV.flat, AV.flat.flatL, boo, int, str, ↓reduceIte, ne_eq, reduceCtorEq, Int.reduceToNat, Nat.reduceEqDiff, Nat.reduceAdd, Nat.reduceSub, Nat.reduceMul, Int.reduceAdd, Int.reduceMul, Int.reduceSub, Int.reduceLT, Int.reduceLE, Int.reduceEq, Int.reduceNe, Nat.reduceLeDiff, Nat.reduceLT, Int.reduceNeg, Nat.reducePow, Nat.reduceMod, ByteArray.size]
      · rintro k hk -
        refine SWp.seq (SWp.reg ?_)
        simp (disch := omega) only [wX, wY, wR0, wR1, wR2, wR3, wR4, wR5, wR6, wR7, undef, Prod.mk.injEq, Option.some.injEq, eq_self, UInt8.reduceToNat, Nat.reduceOr, Nat.reduceAnd, Nat.reduceXor, Nat.reduceDiv, if_pos, if_neg, aStr, aBeq, aPick, aIsnil, aStrId, aB2s, aS2b, aBound, aSls, aSl, aSla, aFaddr, partA, aFld, aIaddr, aIaddrA, aIdxS, aIdxA, aLoad, aExt, aNilc, aLenS, aLen, splice, aBuild, shA, allSh, aBslice, aIsnilp, aStrz, aBsl, allShW, elemsA, flatOk, aApp, aMks, aStore, aBox, aCopy, frz, frz.frzL, live, chunks, flat, esz, u8, AV.free, AV.free.freeL, AV.flat, AV.flat.flatL, boo, int, str, ↓reduceIte, ne_eq, reduceCtorEq, Int.reduceToNat, Nat.reduceEqDiff, Nat.reduceAdd, Nat.reduceSub, Nat.reduceMul, Int.reduceAdd, Int.reduceMul, Int.reduceSub, Int.reduceLT, Int.reduceLE, Int.reduceEq, Int.reduceNe, Nat.reduceLeDiff, Nat.reduceLT, Int.reduceNeg, Nat.reducePow, Nat.reduceMod, ByteArray.size]
        refine SWp.seq (SWp.cond rfl (fun h => ?_) (fun h => ?_))
        · simp only [decide_eq_true_eq] at h
          have hk' : k < m := by omega
          repeat (first | refine SWp.seq ?_ | refine SWp.block ?_ | refine SWp.condT rfl ?_ | refine SWp.condF rfl ?_ | refine LoopAt.next ?_ | refine And.intro (by omega) ?_ | ((first | refine SWp.reg ?_ | refine SWp.skip ?_ | refine SWp.exit ?_ | refine SWp.ret ?_ | refine (fun h => h : AOps _ _ _ _ → AOps _ _ _ _) ?_); simp (disch := omega) only [wX, wY, wR0, wR1, wR2, wR3, wR4, wR5, wR6, wR7, undef, Prod.mk.injEq, Option.some.injEq, eq_self, UInt8.reduceToNat, Nat.reduceOr, Nat.reduceAnd, Nat.reduceXor, Nat.reduceDiv, if_pos, if_neg, aStr, aBeq, aPick, aIsnil, aStrId, aB2s, aS2b, aBound, aSls, aSl, aSla, aFaddr, partA, aFld, aIaddr, aIaddrA, aIdxS, aIdxA, aLoad, aExt, aNilc, aLenS, aLen, splice, aBuild, shA, allSh, aBslice, aIsnilp, aStrz, aBsl, allShW, elemsA, flatOk, aApp, aMks, aStore, aBox, aCopy, frz, frz.frzL, live, chunks, flat, esz, u8, AV.free, AV.free.freeL, AV.flat, AV.flat.flatL, boo, int, str, ↓reduceIte, ne_eq, reduceCtorEq, Int.reduceToNat, Nat.reduceEqDiff, Nat.reduceAdd, Nat.reduceSub, Nat.reduceMul, Int.reduceAdd, Int.reduceMul, Int.reduceSub, Int.reduceLT, Int.reduceLE, Int.reduceEq, Int.reduceNe, Nat.reduceLeDiff, Nat.reduceLT, Int.reduceNeg, Nat.reducePow, Nat.reduceMod, ByteArray.size, length_leK, toNat_mul_lit, wrap_u8_nat, leK_set n m k hk']))
          refine At.of (k + 1) (by omega) (by omega) rfl rfl (Nat.le_refl _) ?_ ?_
          · simp (disch := omega) only [wX, wY, wR0, wR1, wR2, wR3, wR4, wR5, wR6, wR7, undef, Prod.mk.injEq, Option.some.injEq, eq_self, UInt8.reduceToNat, Nat.reduceOr, Nat.reduceAnd, Nat.reduceXor, Nat.reduceDiv, if_pos, if_neg, aStr, aBeq, aPick, aIsnil, aStrId, aB2s, aS2b, aBound, aSls, aSl, aSla, aFaddr, partA, aFld, aIaddr, aIaddrA, aIdxS, aIdxA, aLoad, aExt, aNilc, aLenS, aLen, splice, aBuild, shA, allSh, aBslice, aIsnilp, aStrz, aBsl, allShW, elemsA, flatOk, aApp, aMks, aStore, aBox, aCopy, frz, frz.frzL, live, chunks, flat, esz, u8, AV.free, AV.free.freeL, AV.flat, AV.flat.flatL, boo, int, str, ↓reduceIte, ne_eq, reduceCtorEq, Int.reduceToNat, Nat.reduceEqDiff, Nat.reduceAdd, Nat.reduceSub, Nat.reduceMul, Int.reduceAdd, Int.reduceMul, Int.reduceSub, Int.reduceLT, Int.reduceLE, Int.reduceEq, Int.reduceNe, Nat.reduceLeDiff, Nat.reduceLT, Int.reduceNeg, Nat.reducePow, Nat.reduceMod, ByteArray.size]
          · simp (disch := omega) only [wX, wY, wR0, wR1, wR2, wR3, wR4, wR5, wR6, wR7, undef, Prod.mk.injEq, Option.some.injEq, eq_self, UInt8.reduceToNat, Nat.reduceOr, Nat.reduceAnd, Nat.reduceXor, Nat.reduceDiv, if_pos, if_neg, aStr, aBeq, aPick, aIsnil, aStrId, aB2s, aS2b, aBound, aSls, aSl, aSla, aFaddr, partA, aFld, aIaddr, aIaddrA, aIdxS, aIdxA, aLoad, aExt, aNilc, aLenS, aLen, splice, aBuild, shA, allSh, aBslice, aIsnilp, aStrz, aBsl, allShW, elemsA, flatOk, aApp, aMks, aStore, aBox, aCopy, frz, frz.frzL, live, chunks, flat, esz, u8, AV.free, AV.free.freeL, AV.flat, AV.flat.flatL, boo, int, str, ↓reduceIte, ne_eq, reduceCtorEq, Int.reduceToNat, Nat.reduceEqDiff, Nat.reduceAdd, Nat.reduceSub, Nat.reduceMul, Int.reduceAdd, Int.reduceMul, Int.reduceSub, Int.reduceLT, Int.reduceLE, Int.reduceEq, Int.reduceNe, Nat.reduceLeDiff, Nat.reduceLT, Int.reduceNeg, Nat.reducePow, Nat.reduceMod, ByteArray.size]
        · simp only [decide_eq_false_iff_not] at h
          obtain rfl : k = m := by omega
          have hlb : (leB n k).length = k := by simp [leB]
          repeat (first | refine SWp.seq ?_ | refine SWp.block ?_ | refine SWp.condT rfl ?_ | refine SWp.condF rfl ?_ | refine LoopAt.next ?_ | refine And.intro (by omega) ?_ | ((first | refine SWp.reg ?_ | refine SWp.skip ?_ | refine SWp.exit ?_ | refine SWp.ret ?_ | refine (fun h => h : AOps _ _ _ _ → AOps _ _ _ _) ?_); simp (disch := omega) only [wX, wY, wR0, wR1, wR2, wR3, wR4, wR5, wR6, wR7, undef, Prod.mk.injEq, Option.some.injEq, eq_self, UInt8.reduceToNat, Nat.reduceOr, Nat.reduceAnd, Nat.reduceXor, Nat.reduceDiv, if_pos, if_neg, aStr, aBeq, aPick, aIsnil, aStrId, aB2s, aS2b, aBound, aSls, aSl, aSla, aFaddr, partA, aFld, aIaddr, aIaddrA, aIdxS, aIdxA, aLoad, aExt, aNilc, aLenS, aLen, splice, aBuild, shA, allSh, aBslice, aIsnilp, aStrz, aBsl, allShW, elemsA, flatOk, aApp, aMks, aStore, aBox, aCopy, frz, frz.frzL, live, chunks, flat, esz, u8, AV.free, AV.free.freeL, AV.flat, AV.flat.flatL, boo, int, str, ↓reduceIte, ne_eq, reduceCtorEq, Int.reduceToNat, Nat.reduceEqDiff, Nat.reduceAdd, Nat.reduceSub, Nat.reduceMul, Int.reduceAdd, Int.reduceMul, Int.reduceSub, Int.reduceLT, Int.reduceLE, Int.reduceEq, Int.reduceNe, Nat.reduceLeDiff, Nat.reduceLT, Int.reduceNeg, Nat.reducePow, Nat.reduceMod, ByteArray.size, hu, leK_full, length_leK, hlb, List.take_of_length_le]))
end Go.Proofs.YtmgmlbbbjjnmpaaDoor.Aw
