/- The law CodecDec: its contract. -/
import Derived.Test.YtdkghcfbhpemfaaDoorDecB
import Derived.Test.YtdkghcfbhpemfaaDoorAwakeA
import Derived.Test.YtdkghcfbhpemfaaDoorAwR
import Derived.Test.YtdkghcfbhpemfaaDoorRows
import Derived.MakeChecks
namespace Go.Proofs.YtdkghcfbhpemfaaDoor.Aw
open Go
set_option linter.unusedSimpArgs false
set_option linter.unusedVariables false

set_option maxRecDepth 100000 in
theorem ref_Undec_c [Tabs Tryd.prog] (s : List UInt8) (hs : s.length ≤ 1000000) : Con Tryd.prog n_drayageref01_Undec [str s] (.agg [.sc (.slice none 0 0), int (undecV s).1, int (undecV s).2]) := by
  refine Con.of' mix Tryd.func19 rfl Tryd.ntmps19 e_drayageref01_Undec r_drayageref01_Undec (by simp) rfl rfl ?_
  unfold s_drayageref01_Undec
  by_cases c0 : s = []
  · have d0 := decide_eq_true c0
    have hu := undecV_bad (s := s) (.inl c0)
    repeat (first | refine SWp.seq ?_ | refine SWp.block ?_ | refine SWp.condT rfl ?_ | refine SWp.condF rfl ?_ | refine LoopAt.next ?_ | refine And.intro (by omega) ?_ | ((first | refine SWp.reg ?_ | refine SWp.skip ?_ | refine SWp.exit ?_ | refine SWp.ret ?_ | refine (fun h => h : AOps _ _ _ _ → AOps _ _ _ _) ?_); simp (disch := omega) only [wR0, wR1, wR2, wR3, wR4, wR5, wR6, wR7, undef, Prod.mk.injEq, Option.some.injEq, eq_self, UInt8.reduceToNat, Nat.reduceOr, Nat.reduceAnd, Nat.reduceXor, Nat.reduceDiv, if_pos, if_neg, aBin, aStr, aUn, aBeq, aPick, aCi, aIsnil, aStrId, aB2s, aS2b, aBound, aSls, aSl, aSla, aFaddr, partA, aFld, aIaddr, aIaddrA, aIdxS, aIdxA, aLoad, aExt, aNilc, aLenS, aLen, splice, aBuild, shA, allSh, aBslice, aBsl, allShW, elemsA, flatOk, aApp, aMks, aStore, aBox, aCopy, frz, frz.frzL, live, chunks, flat, esz, u8, AV.free, AV.free.freeL, AV.flat, AV.flat.flatL, boo, int, str, ↓reduceIte, ne_eq, reduceCtorEq, Int.reduceToNat, Nat.reduceEqDiff, Nat.reduceAdd, Nat.reduceSub, Nat.reduceMul, Int.reduceAdd, Int.reduceMul, Int.reduceSub, Int.reduceLT, Int.reduceLE, Int.reduceEq, Int.reduceNe, Nat.reduceLeDiff, Nat.reduceLT, Int.reduceNeg, Nat.reducePow, Nat.reduceMod, ByteArray.size, d0, hu]))
  have d0 := decide_eq_false c0
  have hpos : 0 < s.length := List.length_pos_iff.2 c0
  by_cases c3 : (1 : Int) < (s.length : Int)
  · have d3 := decide_eq_true c3
    by_cases c2 : ((s.getD 0 0).toNat : Int) = 48
    · have d2 := decide_eq_true c2
      have c2' : s.getD 0 0 = 48 := (byte_eq (n := 48) (by omega)).1 c2
      have hu := undecV_bad (s := s) (.inr (.inr ⟨by omega, c2'⟩))
      repeat (first | refine SWp.seq ?_ | refine SWp.block ?_ | refine SWp.condT rfl ?_ | refine SWp.condF rfl ?_ | refine LoopAt.next ?_ | refine And.intro (by omega) ?_ | ((first | refine SWp.reg ?_ | refine SWp.skip ?_ | refine SWp.exit ?_ | refine SWp.ret ?_ | refine (fun h => h : AOps _ _ _ _ → AOps _ _ _ _) ?_); simp (disch := omega) only [wR0, wR1, wR2, wR3, wR4, wR5, wR6, wR7, undef, Prod.mk.injEq, Option.some.injEq, eq_self, UInt8.reduceToNat, Nat.reduceOr, Nat.reduceAnd, Nat.reduceXor, Nat.reduceDiv, if_pos, if_neg, aBin, aStr, aUn, aBeq, aPick, aCi, aIsnil, aStrId, aB2s, aS2b, aBound, aSls, aSl, aSla, aFaddr, partA, aFld, aIaddr, aIaddrA, aIdxS, aIdxA, aLoad, aExt, aNilc, aLenS, aLen, splice, aBuild, shA, allSh, aBslice, aBsl, allShW, elemsA, flatOk, aApp, aMks, aStore, aBox, aCopy, frz, frz.frzL, live, chunks, flat, esz, u8, AV.free, AV.free.freeL, AV.flat, AV.flat.flatL, boo, int, str, ↓reduceIte, ne_eq, reduceCtorEq, Int.reduceToNat, Nat.reduceEqDiff, Nat.reduceAdd, Nat.reduceSub, Nat.reduceMul, Int.reduceAdd, Int.reduceMul, Int.reduceSub, Int.reduceLT, Int.reduceLE, Int.reduceEq, Int.reduceNe, Nat.reduceLeDiff, Nat.reduceLT, Int.reduceNeg, Nat.reducePow, Nat.reduceMod, ByteArray.size, d0, d3, d2, hu]))
    · have d2 := decide_eq_false c2
      have c2' : ¬ (1 < s.length ∧ s.getD 0 0 = 48) := fun h => c2 ((byte_eq (n := 48) (by omega)).2 h.2)
      repeat (first | refine SWp.seq ?_ | refine SWp.block ?_ | refine SWp.condT rfl ?_ | refine SWp.condF rfl ?_ | refine LoopAt.next ?_ | refine And.intro (by omega) ?_ | ((first | refine SWp.reg ?_ | refine SWp.skip ?_ | refine SWp.exit ?_ | refine SWp.ret ?_ | refine (fun h => h : AOps _ _ _ _ → AOps _ _ _ _) ?_); simp (disch := omega) only [wR0, wR1, wR2, wR3, wR4, wR5, wR6, wR7, undef, Prod.mk.injEq, Option.some.injEq, eq_self, UInt8.reduceToNat, Nat.reduceOr, Nat.reduceAnd, Nat.reduceXor, Nat.reduceDiv, if_pos, if_neg, aBin, aStr, aUn, aBeq, aPick, aCi, aIsnil, aStrId, aB2s, aS2b, aBound, aSls, aSl, aSla, aFaddr, partA, aFld, aIaddr, aIaddrA, aIdxS, aIdxA, aLoad, aExt, aNilc, aLenS, aLen, splice, aBuild, shA, allSh, aBslice, aBsl, allShW, elemsA, flatOk, aApp, aMks, aStore, aBox, aCopy, frz, frz.frzL, live, chunks, flat, esz, u8, AV.free, AV.free.freeL, AV.flat, AV.flat.flatL, boo, int, str, ↓reduceIte, ne_eq, reduceCtorEq, Int.reduceToNat, Nat.reduceEqDiff, Nat.reduceAdd, Nat.reduceSub, Nat.reduceMul, Int.reduceAdd, Int.reduceMul, Int.reduceSub, Int.reduceLT, Int.reduceLE, Int.reduceEq, Int.reduceNe, Nat.reduceLeDiff, Nat.reduceLT, Int.reduceNeg, Nat.reducePow, Nat.reduceMod, ByteArray.size, d0, d3, d2]))
      refine SWp.loop (α := Nat) (fun k => mk 36 1 [(0, str s), (2, .op 2 0 0), (3, int k)] [(2, 0, .row false [.sc (.slice none 0 0), .sc (.int .i64 0), .sc (.int .i64 0)])])
        (fun k => k ≤ s.length ∧ (s.take k).all (digit 10) = true) (fun k => s.length - k) 0 ⟨Nat.zero_le _, rfl⟩ (le_mk rfl ?_ ?_ ?_) ?_
      · exact Nat.le_refl _
      · simp (disch := omega) only [wR0, wR1, wR2, wR3, wR4, wR5, wR6, wR7, undef, Prod.mk.injEq, Option.some.injEq, eq_self, UInt8.reduceToNat, Nat.reduceOr, Nat.reduceAnd, Nat.reduceXor, Nat.reduceDiv, if_pos, if_neg, aBin, aStr, aUn, aBeq, aPick, aCi, aIsnil, aStrId, aB2s, aS2b, aBound, aSls, aSl, aSla, aFaddr, partA, aFld, aIaddr, aIaddrA, aIdxS, aIdxA, aLoad, aExt, aNilc, aLenS, aLen, splice, aBuild, shA, allSh, aBslice, aBsl, allShW, elemsA, flatOk, aApp, aMks, aStore, aBox, aCopy, frz, frz.frzL, live, chunks, flat, esz, u8, AV.free, AV.free.freeL, AV.flat, AV.flat.flatL, boo, int, str, ↓reduceIte, ne_eq, reduceCtorEq, Int.reduceToNat, Nat.reduceEqDiff, Nat.reduceAdd, Nat.reduceSub, Nat.reduceMul, Int.reduceAdd, Int.reduceMul, Int.reduceSub, Int.reduceLT, Int.reduceLE, Int.reduceEq, Int.reduceNe, Nat.reduceLeDiff, Nat.reduceLT, Int.reduceNeg, Nat.reducePow, Nat.reduceMod, ByteArray.size]
      · simp (disch := omega) only [wR0, wR1, wR2, wR3, wR4, wR5, wR6, wR7, undef, Prod.mk.injEq, Option.some.injEq, eq_self, UInt8.reduceToNat, Nat.reduceOr, Nat.reduceAnd, Nat.reduceXor, Nat.reduceDiv, if_pos, if_neg, aBin, aStr, aUn, aBeq, aPick, aCi, aIsnil, aStrId, aB2s, aS2b, aBound, aSls, aSl, aSla, aFaddr, partA, aFld, aIaddr, aIaddrA, aIdxS, aIdxA, aLoad, aExt, aNilc, aLenS, aLen, splice, aBuild, shA, allSh, aBslice, aBsl, allShW, elemsA, flatOk, aApp, aMks, aStore, aBox, aCopy, frz, frz.frzL, live, chunks, flat, esz, u8, AV.free, AV.free.freeL, AV.flat, AV.flat.flatL, boo, int, str, ↓reduceIte, ne_eq, reduceCtorEq, Int.reduceToNat, Nat.reduceEqDiff, Nat.reduceAdd, Nat.reduceSub, Nat.reduceMul, Int.reduceAdd, Int.reduceMul, Int.reduceSub, Int.reduceLT, Int.reduceLE, Int.reduceEq, Int.reduceNe, Nat.reduceLeDiff, Nat.reduceLT, Int.reduceNeg, Nat.reducePow, Nat.reduceMod, ByteArray.size]
      · rintro k ⟨hk, hall⟩ -
        repeat (first | refine SWp.seq ?_ | refine SWp.block ?_ | refine SWp.condT rfl ?_ | refine SWp.condF rfl ?_ | refine LoopAt.next ?_ | refine And.intro (by omega) ?_ | ((first | refine SWp.reg ?_ | refine SWp.skip ?_ | refine SWp.exit ?_ | refine SWp.ret ?_ | refine (fun h => h : AOps _ _ _ _ → AOps _ _ _ _) ?_); simp (disch := omega) only [wR0, wR1, wR2, wR3, wR4, wR5, wR6, wR7, undef, Prod.mk.injEq, Option.some.injEq, eq_self, UInt8.reduceToNat, Nat.reduceOr, Nat.reduceAnd, Nat.reduceXor, Nat.reduceDiv, if_pos, if_neg, aBin, aStr, aUn, aBeq, aPick, aCi, aIsnil, aStrId, aB2s, aS2b, aBound, aSls, aSl, aSla, aFaddr, partA, aFld, aIaddr, aIaddrA, aIdxS, aIdxA, aLoad, aExt, aNilc, aLenS, aLen, splice, aBuild, shA, allSh, aBslice, aBsl, allShW, elemsA, flatOk, aApp, aMks, aStore, aBox, aCopy, frz, frz.frzL, live, chunks, flat, esz, u8, AV.free, AV.free.freeL, AV.flat, AV.flat.flatL, boo, int, str, ↓reduceIte, ne_eq, reduceCtorEq, Int.reduceToNat, Nat.reduceEqDiff, Nat.reduceAdd, Nat.reduceSub, Nat.reduceMul, Int.reduceAdd, Int.reduceMul, Int.reduceSub, Int.reduceLT, Int.reduceLE, Int.reduceEq, Int.reduceNe, Nat.reduceLeDiff, Nat.reduceLT, Int.reduceNeg, Nat.reducePow, Nat.reduceMod, ByteArray.size]))
        refine SWp.cond rfl (fun h => ?_) (fun h => ?_)
        · simp only [decide_eq_true_eq] at h
          have hk' : k < s.length := by omega
          by_cases e1 : ((s.getD k 0).toNat : Int) < 48
          · have f1 := decide_eq_true e1
            have hu := undecV_bad (s := s) (.inr (.inl (all_not s (digit 10) k hk' (decide_eq_false (by omega)))))
            repeat (first | refine SWp.seq ?_ | refine SWp.block ?_ | refine SWp.condT rfl ?_ | refine SWp.condF rfl ?_ | refine LoopAt.next ?_ | refine And.intro (by omega) ?_ | ((first | refine SWp.reg ?_ | refine SWp.skip ?_ | refine SWp.exit ?_ | refine SWp.ret ?_ | refine (fun h => h : AOps _ _ _ _ → AOps _ _ _ _) ?_); simp (disch := omega) only [wR0, wR1, wR2, wR3, wR4, wR5, wR6, wR7, undef, Prod.mk.injEq, Option.some.injEq, eq_self, UInt8.reduceToNat, Nat.reduceOr, Nat.reduceAnd, Nat.reduceXor, Nat.reduceDiv, if_pos, if_neg, aBin, aStr, aUn, aBeq, aPick, aCi, aIsnil, aStrId, aB2s, aS2b, aBound, aSls, aSl, aSla, aFaddr, partA, aFld, aIaddr, aIaddrA, aIdxS, aIdxA, aLoad, aExt, aNilc, aLenS, aLen, splice, aBuild, shA, allSh, aBslice, aBsl, allShW, elemsA, flatOk, aApp, aMks, aStore, aBox, aCopy, frz, frz.frzL, live, chunks, flat, esz, u8, AV.free, AV.free.freeL, AV.flat, AV.flat.flatL, boo, int, str, ↓reduceIte, ne_eq, reduceCtorEq, Int.reduceToNat, Nat.reduceEqDiff, Nat.reduceAdd, Nat.reduceSub, Nat.reduceMul, Int.reduceAdd, Int.reduceMul, Int.reduceSub, Int.reduceLT, Int.reduceLE, Int.reduceEq, Int.reduceNe, Nat.reduceLeDiff, Nat.reduceLT, Int.reduceNeg, Nat.reducePow, Nat.reduceMod, ByteArray.size, f1, hu]))
          · have f1 := decide_eq_false e1
            by_cases e2 : (57 : Int) < ((s.getD k 0).toNat : Int)
            · have f2 := decide_eq_true e2
              have hu := undecV_bad (s := s) (.inr (.inl (all_not s (digit 10) k hk' (decide_eq_false (by omega)))))
              repeat (first | refine SWp.seq ?_ | refine SWp.block ?_ | refine SWp.condT rfl ?_ | refine SWp.condF rfl ?_ | refine LoopAt.next ?_ | refine And.intro (by omega) ?_ | ((first | refine SWp.reg ?_ | refine SWp.skip ?_ | refine SWp.exit ?_ | refine SWp.ret ?_ | refine (fun h => h : AOps _ _ _ _ → AOps _ _ _ _) ?_); simp (disch := omega) only [wR0, wR1, wR2, wR3, wR4, wR5, wR6, wR7, undef, Prod.mk.injEq, Option.some.injEq, eq_self, UInt8.reduceToNat, Nat.reduceOr, Nat.reduceAnd, Nat.reduceXor, Nat.reduceDiv, if_pos, if_neg, aBin, aStr, aUn, aBeq, aPick, aCi, aIsnil, aStrId, aB2s, aS2b, aBound, aSls, aSl, aSla, aFaddr, partA, aFld, aIaddr, aIaddrA, aIdxS, aIdxA, aLoad, aExt, aNilc, aLenS, aLen, splice, aBuild, shA, allSh, aBslice, aBsl, allShW, elemsA, flatOk, aApp, aMks, aStore, aBox, aCopy, frz, frz.frzL, live, chunks, flat, esz, u8, AV.free, AV.free.freeL, AV.flat, AV.flat.flatL, boo, int, str, ↓reduceIte, ne_eq, reduceCtorEq, Int.reduceToNat, Nat.reduceEqDiff, Nat.reduceAdd, Nat.reduceSub, Nat.reduceMul, Int.reduceAdd, Int.reduceMul, Int.reduceSub, Int.reduceLT, Int.reduceLE, Int.reduceEq, Int.reduceNe, Nat.reduceLeDiff, Nat.reduceLT, Int.reduceNeg, Nat.reducePow, Nat.reduceMod, ByteArray.size, f1, f2, hu]))
            · have f2 := decide_eq_false e2
              repeat (first | refine SWp.seq ?_ | refine SWp.block ?_ | refine SWp.condT rfl ?_ | refine SWp.condF rfl ?_ | refine LoopAt.next ?_ | refine And.intro (by omega) ?_ | ((first | refine SWp.reg ?_ | refine SWp.skip ?_ | refine SWp.exit ?_ | refine SWp.ret ?_ | refine (fun h => h : AOps _ _ _ _ → AOps _ _ _ _) ?_); simp (disch := omega) only [wR0, wR1, wR2, wR3, wR4, wR5, wR6, wR7, undef, Prod.mk.injEq, Option.some.injEq, eq_self, UInt8.reduceToNat, Nat.reduceOr, Nat.reduceAnd, Nat.reduceXor, Nat.reduceDiv, if_pos, if_neg, aBin, aStr, aUn, aBeq, aPick, aCi, aIsnil, aStrId, aB2s, aS2b, aBound, aSls, aSl, aSla, aFaddr, partA, aFld, aIaddr, aIaddrA, aIdxS, aIdxA, aLoad, aExt, aNilc, aLenS, aLen, splice, aBuild, shA, allSh, aBslice, aBsl, allShW, elemsA, flatOk, aApp, aMks, aStore, aBox, aCopy, frz, frz.frzL, live, chunks, flat, esz, u8, AV.free, AV.free.freeL, AV.flat, AV.flat.flatL, boo, int, str, ↓reduceIte, ne_eq, reduceCtorEq, Int.reduceToNat, Nat.reduceEqDiff, Nat.reduceAdd, Nat.reduceSub, Nat.reduceMul, Int.reduceAdd, Int.reduceMul, Int.reduceSub, Int.reduceLT, Int.reduceLE, Int.reduceEq, Int.reduceNe, Nat.reduceLeDiff, Nat.reduceLT, Int.reduceNeg, Nat.reducePow, Nat.reduceMod, ByteArray.size, f1, f2]))
              refine At.of (k + 1) ⟨by omega, by rw [all_take s _ k hk' hall]; exact decide_eq_true (by omega)⟩ (by omega) rfl rfl (Nat.le_refl _) ?_ ?_
              · simp (disch := omega) only [wR0, wR1, wR2, wR3, wR4, wR5, wR6, wR7, undef, Prod.mk.injEq, Option.some.injEq, eq_self, UInt8.reduceToNat, Nat.reduceOr, Nat.reduceAnd, Nat.reduceXor, Nat.reduceDiv, if_pos, if_neg, aBin, aStr, aUn, aBeq, aPick, aCi, aIsnil, aStrId, aB2s, aS2b, aBound, aSls, aSl, aSla, aFaddr, partA, aFld, aIaddr, aIaddrA, aIdxS, aIdxA, aLoad, aExt, aNilc, aLenS, aLen, splice, aBuild, shA, allSh, aBslice, aBsl, allShW, elemsA, flatOk, aApp, aMks, aStore, aBox, aCopy, frz, frz.frzL, live, chunks, flat, esz, u8, AV.free, AV.free.freeL, AV.flat, AV.flat.flatL, boo, int, str, ↓reduceIte, ne_eq, reduceCtorEq, Int.reduceToNat, Nat.reduceEqDiff, Nat.reduceAdd, Nat.reduceSub, Nat.reduceMul, Int.reduceAdd, Int.reduceMul, Int.reduceSub, Int.reduceLT, Int.reduceLE, Int.reduceEq, Int.reduceNe, Nat.reduceLeDiff, Nat.reduceLT, Int.reduceNeg, Nat.reducePow, Nat.reduceMod, ByteArray.size]
              · simp (disch := omega) only [wR0, wR1, wR2, wR3, wR4, wR5, wR6, wR7, undef, Prod.mk.injEq, Option.some.injEq, eq_self, UInt8.reduceToNat, Nat.reduceOr, Nat.reduceAnd, Nat.reduceXor, Nat.reduceDiv, if_pos, if_neg, aBin, aStr, aUn, aBeq, aPick, aCi, aIsnil, aStrId, aB2s, aS2b, aBound, aSls, aSl, aSla, aFaddr, partA, aFld, aIaddr, aIaddrA, aIdxS, aIdxA, aLoad, aExt, aNilc, aLenS, aLen, splice, aBuild, shA, allSh, aBslice, aBsl, allShW, elemsA, flatOk, aApp, aMks, aStore, aBox, aCopy, frz, frz.frzL, live, chunks, flat, esz, u8, AV.free, AV.free.freeL, AV.flat, AV.flat.flatL, boo, int, str, ↓reduceIte, ne_eq, reduceCtorEq, Int.reduceToNat, Nat.reduceEqDiff, Nat.reduceAdd, Nat.reduceSub, Nat.reduceMul, Int.reduceAdd, Int.reduceMul, Int.reduceSub, Int.reduceLT, Int.reduceLE, Int.reduceEq, Int.reduceNe, Nat.reduceLeDiff, Nat.reduceLT, Int.reduceNeg, Nat.reducePow, Nat.reduceMod, ByteArray.size]
        · simp only [decide_eq_false_iff_not] at h
          obtain rfl : k = s.length := by omega
          rw [List.take_length] at hall
          have hu := undecV_ok' c0 hall c2'
          repeat (first | refine SWp.seq ?_ | refine SWp.block ?_ | refine SWp.condT rfl ?_ | refine SWp.condF rfl ?_ | refine LoopAt.next ?_ | refine And.intro (by omega) ?_ | ((first | refine SWp.reg ?_ | refine SWp.skip ?_ | refine SWp.exit ?_ | refine SWp.ret ?_ | refine (fun h => h : AOps _ _ _ _ → AOps _ _ _ _) ?_); simp (disch := omega) only [wR0, wR1, wR2, wR3, wR4, wR5, wR6, wR7, undef, Prod.mk.injEq, Option.some.injEq, eq_self, UInt8.reduceToNat, Nat.reduceOr, Nat.reduceAnd, Nat.reduceXor, Nat.reduceDiv, if_pos, if_neg, aBin, aStr, aUn, aBeq, aPick, aCi, aIsnil, aStrId, aB2s, aS2b, aBound, aSls, aSl, aSla, aFaddr, partA, aFld, aIaddr, aIaddrA, aIdxS, aIdxA, aLoad, aExt, aNilc, aLenS, aLen, splice, aBuild, shA, allSh, aBslice, aBsl, allShW, elemsA, flatOk, aApp, aMks, aStore, aBox, aCopy, frz, frz.frzL, live, chunks, flat, esz, u8, AV.free, AV.free.freeL, AV.flat, AV.flat.flatL, boo, int, str, ↓reduceIte, ne_eq, reduceCtorEq, Int.reduceToNat, Nat.reduceEqDiff, Nat.reduceAdd, Nat.reduceSub, Nat.reduceMul, Int.reduceAdd, Int.reduceMul, Int.reduceSub, Int.reduceLT, Int.reduceLE, Int.reduceEq, Int.reduceNe, Nat.reduceLeDiff, Nat.reduceLT, Int.reduceNeg, Nat.reducePow, Nat.reduceMod, ByteArray.size]))
          refine goC_p _ (.inl ⟨rfl, ref_number_c s hs hall⟩) ?_
          repeat (first | refine SWp.seq ?_ | refine SWp.block ?_ | refine SWp.condT rfl ?_ | refine SWp.condF rfl ?_ | refine LoopAt.next ?_ | refine And.intro (by omega) ?_ | ((first | refine SWp.reg ?_ | refine SWp.skip ?_ | refine SWp.exit ?_ | refine SWp.ret ?_ | refine (fun h => h : AOps _ _ _ _ → AOps _ _ _ _) ?_); simp (disch := omega) only [wR0, wR1, wR2, wR3, wR4, wR5, wR6, wR7, undef, Prod.mk.injEq, Option.some.injEq, eq_self, UInt8.reduceToNat, Nat.reduceOr, Nat.reduceAnd, Nat.reduceXor, Nat.reduceDiv, if_pos, if_neg, aBin, aStr, aUn, aBeq, aPick, aCi, aIsnil, aStrId, aB2s, aS2b, aBound, aSls, aSl, aSla, aFaddr, partA, aFld, aIaddr, aIaddrA, aIdxS, aIdxA, aLoad, aExt, aNilc, aLenS, aLen, splice, aBuild, shA, allSh, aBslice, aBsl, allShW, elemsA, flatOk, aApp, aMks, aStore, aBox, aCopy, frz, frz.frzL, live, chunks, flat, esz, u8, AV.free, AV.free.freeL, AV.flat, AV.flat.flatL, boo, int, str, ↓reduceIte, ne_eq, reduceCtorEq, Int.reduceToNat, Nat.reduceEqDiff, Nat.reduceAdd, Nat.reduceSub, Nat.reduceMul, Int.reduceAdd, Int.reduceMul, Int.reduceSub, Int.reduceLT, Int.reduceLE, Int.reduceEq, Int.reduceNe, Nat.reduceLeDiff, Nat.reduceLT, Int.reduceNeg, Nat.reducePow, Nat.reduceMod, ByteArray.size, hu]))
  · have d3 := decide_eq_false c3
    have c2' : ¬ (1 < s.length ∧ s.getD 0 0 = 48) := fun h => by omega
    repeat (first | refine SWp.seq ?_ | refine SWp.block ?_ | refine SWp.condT rfl ?_ | refine SWp.condF rfl ?_ | refine LoopAt.next ?_ | refine And.intro (by omega) ?_ | ((first | refine SWp.reg ?_ | refine SWp.skip ?_ | refine SWp.exit ?_ | refine SWp.ret ?_ | refine (fun h => h : AOps _ _ _ _ → AOps _ _ _ _) ?_); simp (disch := omega) only [wR0, wR1, wR2, wR3, wR4, wR5, wR6, wR7, undef, Prod.mk.injEq, Option.some.injEq, eq_self, UInt8.reduceToNat, Nat.reduceOr, Nat.reduceAnd, Nat.reduceXor, Nat.reduceDiv, if_pos, if_neg, aBin, aStr, aUn, aBeq, aPick, aCi, aIsnil, aStrId, aB2s, aS2b, aBound, aSls, aSl, aSla, aFaddr, partA, aFld, aIaddr, aIaddrA, aIdxS, aIdxA, aLoad, aExt, aNilc, aLenS, aLen, splice, aBuild, shA, allSh, aBslice, aBsl, allShW, elemsA, flatOk, aApp, aMks, aStore, aBox, aCopy, frz, frz.frzL, live, chunks, flat, esz, u8, AV.free, AV.free.freeL, AV.flat, AV.flat.flatL, boo, int, str, ↓reduceIte, ne_eq, reduceCtorEq, Int.reduceToNat, Nat.reduceEqDiff, Nat.reduceAdd, Nat.reduceSub, Nat.reduceMul, Int.reduceAdd, Int.reduceMul, Int.reduceSub, Int.reduceLT, Int.reduceLE, Int.reduceEq, Int.reduceNe, Nat.reduceLeDiff, Nat.reduceLT, Int.reduceNeg, Nat.reducePow, Nat.reduceMod, ByteArray.size, d0, d3]))
    refine SWp.loop (α := Nat) (fun k => mk 36 1 [(0, str s), (2, .op 2 0 0), (3, int k)] [(2, 0, .row false [.sc (.slice none 0 0), .sc (.int .i64 0), .sc (.int .i64 0)])])
      (fun k => k ≤ s.length ∧ (s.take k).all (digit 10) = true) (fun k => s.length - k) 0 ⟨Nat.zero_le _, rfl⟩ (le_mk rfl ?_ ?_ ?_) ?_
    · exact Nat.le_refl _
    · simp (disch := omega) only [wR0, wR1, wR2, wR3, wR4, wR5, wR6, wR7, undef, Prod.mk.injEq, Option.some.injEq, eq_self, UInt8.reduceToNat, Nat.reduceOr, Nat.reduceAnd, Nat.reduceXor, Nat.reduceDiv, if_pos, if_neg, aBin, aStr, aUn, aBeq, aPick, aCi, aIsnil, aStrId, aB2s, aS2b, aBound, aSls, aSl, aSla, aFaddr, partA, aFld, aIaddr, aIaddrA, aIdxS, aIdxA, aLoad, aExt, aNilc, aLenS, aLen, splice, aBuild, shA, allSh, aBslice, aBsl, allShW, elemsA, flatOk, aApp, aMks, aStore, aBox, aCopy, frz, frz.frzL, live, chunks, flat, esz, u8, AV.free, AV.free.freeL, AV.flat, AV.flat.flatL, boo, int, str, ↓reduceIte, ne_eq, reduceCtorEq, Int.reduceToNat, Nat.reduceEqDiff, Nat.reduceAdd, Nat.reduceSub, Nat.reduceMul, Int.reduceAdd, Int.reduceMul, Int.reduceSub, Int.reduceLT, Int.reduceLE, Int.reduceEq, Int.reduceNe, Nat.reduceLeDiff, Nat.reduceLT, Int.reduceNeg, Nat.reducePow, Nat.reduceMod, ByteArray.size]
    · simp (disch := omega) only [wR0, wR1, wR2, wR3, wR4, wR5, wR6, wR7, undef, Prod.mk.injEq, Option.some.injEq, eq_self, UInt8.reduceToNat, Nat.reduceOr, Nat.reduceAnd, Nat.reduceXor, Nat.reduceDiv, if_pos, if_neg, aBin, aStr, aUn, aBeq, aPick, aCi, aIsnil, aStrId, aB2s, aS2b, aBound, aSls, aSl, aSla, aFaddr, partA, aFld, aIaddr, aIaddrA, aIdxS, aIdxA, aLoad, aExt, aNilc, aLenS, aLen, splice, aBuild, shA, allSh, aBslice, aBsl, allShW, elemsA, flatOk, aApp, aMks, aStore, aBox, aCopy, frz, frz.frzL, live, chunks, flat, esz, u8, AV.free, AV.free.freeL, AV.flat, AV.flat.flatL, boo, int, str, ↓reduceIte, ne_eq, reduceCtorEq, Int.reduceToNat, Nat.reduceEqDiff, Nat.reduceAdd, Nat.reduceSub, Nat.reduceMul, Int.reduceAdd, Int.reduceMul, Int.reduceSub, Int.reduceLT, Int.reduceLE, Int.reduceEq, Int.reduceNe, Nat.reduceLeDiff, Nat.reduceLT, Int.reduceNeg, Nat.reducePow, Nat.reduceMod, ByteArray.size]
    · rintro k ⟨hk, hall⟩ -
      repeat (first | refine SWp.seq ?_ | refine SWp.block ?_ | refine SWp.condT rfl ?_ | refine SWp.condF rfl ?_ | refine LoopAt.next ?_ | refine And.intro (by omega) ?_ | ((first | refine SWp.reg ?_ | refine SWp.skip ?_ | refine SWp.exit ?_ | refine SWp.ret ?_ | refine (fun h => h : AOps _ _ _ _ → AOps _ _ _ _) ?_); simp (disch := omega) only [wR0, wR1, wR2, wR3, wR4, wR5, wR6, wR7, undef, Prod.mk.injEq, Option.some.injEq, eq_self, UInt8.reduceToNat, Nat.reduceOr, Nat.reduceAnd, Nat.reduceXor, Nat.reduceDiv, if_pos, if_neg, aBin, aStr, aUn, aBeq, aPick, aCi, aIsnil, aStrId, aB2s, aS2b, aBound, aSls, aSl, aSla, aFaddr, partA, aFld, aIaddr, aIaddrA, aIdxS, aIdxA, aLoad, aExt, aNilc, aLenS, aLen, splice, aBuild, shA, allSh, aBslice, aBsl, allShW, elemsA, flatOk, aApp, aMks, aStore, aBox, aCopy, frz, frz.frzL, live, chunks, flat, esz, u8, AV.free, AV.free.freeL, AV.flat, AV.flat.flatL, boo, int, str, ↓reduceIte, ne_eq, reduceCtorEq, Int.reduceToNat, Nat.reduceEqDiff, Nat.reduceAdd, Nat.reduceSub, Nat.reduceMul, Int.reduceAdd, Int.reduceMul, Int.reduceSub, Int.reduceLT, Int.reduceLE, Int.reduceEq, Int.reduceNe, Nat.reduceLeDiff, Nat.reduceLT, Int.reduceNeg, Nat.reducePow, Nat.reduceMod, ByteArray.size]))
      refine SWp.cond rfl (fun h => ?_) (fun h => ?_)
      · simp only [decide_eq_true_eq] at h
        have hk' : k < s.length := by omega
        by_cases e1 : ((s.getD k 0).toNat : Int) < 48
        · have f1 := decide_eq_true e1
          have hu := undecV_bad (s := s) (.inr (.inl (all_not s (digit 10) k hk' (decide_eq_false (by omega)))))
          repeat (first | refine SWp.seq ?_ | refine SWp.block ?_ | refine SWp.condT rfl ?_ | refine SWp.condF rfl ?_ | refine LoopAt.next ?_ | refine And.intro (by omega) ?_ | ((first | refine SWp.reg ?_ | refine SWp.skip ?_ | refine SWp.exit ?_ | refine SWp.ret ?_ | refine (fun h => h : AOps _ _ _ _ → AOps _ _ _ _) ?_); simp (disch := omega) only [wR0, wR1, wR2, wR3, wR4, wR5, wR6, wR7, undef, Prod.mk.injEq, Option.some.injEq, eq_self, UInt8.reduceToNat, Nat.reduceOr, Nat.reduceAnd, Nat.reduceXor, Nat.reduceDiv, if_pos, if_neg, aBin, aStr, aUn, aBeq, aPick, aCi, aIsnil, aStrId, aB2s, aS2b, aBound, aSls, aSl, aSla, aFaddr, partA, aFld, aIaddr, aIaddrA, aIdxS, aIdxA, aLoad, aExt, aNilc, aLenS, aLen, splice, aBuild, shA, allSh, aBslice, aBsl, allShW, elemsA, flatOk, aApp, aMks, aStore, aBox, aCopy, frz, frz.frzL, live, chunks, flat, esz, u8, AV.free, AV.free.freeL, AV.flat, AV.flat.flatL, boo, int, str, ↓reduceIte, ne_eq, reduceCtorEq, Int.reduceToNat, Nat.reduceEqDiff, Nat.reduceAdd, Nat.reduceSub, Nat.reduceMul, Int.reduceAdd, Int.reduceMul, Int.reduceSub, Int.reduceLT, Int.reduceLE, Int.reduceEq, Int.reduceNe, Nat.reduceLeDiff, Nat.reduceLT, Int.reduceNeg, Nat.reducePow, Nat.reduceMod, ByteArray.size, f1, hu]))
        · have f1 := decide_eq_false e1
          by_cases e2 : (57 : Int) < ((s.getD k 0).toNat : Int)
          · have f2 := decide_eq_true e2
            have hu := undecV_bad (s := s) (.inr (.inl (all_not s (digit 10) k hk' (decide_eq_false (by omega)))))
            repeat (first | refine SWp.seq ?_ | refine SWp.block ?_ | refine SWp.condT rfl ?_ | refine SWp.condF rfl ?_ | refine LoopAt.next ?_ | refine And.intro (by omega) ?_ | ((first | refine SWp.reg ?_ | refine SWp.skip ?_ | refine SWp.exit ?_ | refine SWp.ret ?_ | refine (fun h => h : AOps _ _ _ _ → AOps _ _ _ _) ?_); simp (disch := omega) only [wR0, wR1, wR2, wR3, wR4, wR5, wR6, wR7, undef, Prod.mk.injEq, Option.some.injEq, eq_self, UInt8.reduceToNat, Nat.reduceOr, Nat.reduceAnd, Nat.reduceXor, Nat.reduceDiv, if_pos, if_neg, aBin, aStr, aUn, aBeq, aPick, aCi, aIsnil, aStrId, aB2s, aS2b, aBound, aSls, aSl, aSla, aFaddr, partA, aFld, aIaddr, aIaddrA, aIdxS, aIdxA, aLoad, aExt, aNilc, aLenS, aLen, splice, aBuild, shA, allSh, aBslice, aBsl, allShW, elemsA, flatOk, aApp, aMks, aStore, aBox, aCopy, frz, frz.frzL, live, chunks, flat, esz, u8, AV.free, AV.free.freeL, AV.flat, AV.flat.flatL, boo, int, str, ↓reduceIte, ne_eq, reduceCtorEq, Int.reduceToNat, Nat.reduceEqDiff, Nat.reduceAdd, Nat.reduceSub, Nat.reduceMul, Int.reduceAdd, Int.reduceMul, Int.reduceSub, Int.reduceLT, Int.reduceLE, Int.reduceEq, Int.reduceNe, Nat.reduceLeDiff, Nat.reduceLT, Int.reduceNeg, Nat.reducePow, Nat.reduceMod, ByteArray.size, f1, f2, hu]))
          · have f2 := decide_eq_false e2
            repeat (first | refine SWp.seq ?_ | refine SWp.block ?_ | refine SWp.condT rfl ?_ | refine SWp.condF rfl ?_ | refine LoopAt.next ?_ | refine And.intro (by omega) ?_ | ((first | refine SWp.reg ?_ | refine SWp.skip ?_ | refine SWp.exit ?_ | refine SWp.ret ?_ | refine (fun h => h : AOps _ _ _ _ → AOps _ _ _ _) ?_); simp (disch := omega) only [wR0, wR1, wR2, wR3, wR4, wR5, wR6, wR7, undef, Prod.mk.injEq, Option.some.injEq, eq_self, UInt8.reduceToNat, Nat.reduceOr, Nat.reduceAnd, Nat.reduceXor, Nat.reduceDiv, if_pos, if_neg, aBin, aStr, aUn, aBeq, aPick, aCi, aIsnil, aStrId, aB2s, aS2b, aBound, aSls, aSl, aSla, aFaddr, partA, aFld, aIaddr, aIaddrA, aIdxS, aIdxA, aLoad, aExt, aNilc, aLenS, aLen, splice, aBuild, shA, allSh, aBslice, aBsl, allShW, elemsA, flatOk, aApp, aMks, aStore, aBox, aCopy, frz, frz.frzL, live, chunks, flat, esz, u8, AV.free, AV.free.freeL, AV.flat, AV.flat.flatL, boo, int, str, ↓reduceIte, ne_eq, reduceCtorEq, Int.reduceToNat, Nat.reduceEqDiff, Nat.reduceAdd, Nat.reduceSub, Nat.reduceMul, Int.reduceAdd, Int.reduceMul, Int.reduceSub, Int.reduceLT, Int.reduceLE, Int.reduceEq, Int.reduceNe, Nat.reduceLeDiff, Nat.reduceLT, Int.reduceNeg, Nat.reducePow, Nat.reduceMod, ByteArray.size, f1, f2]))
            refine At.of (k + 1) ⟨by omega, by rw [all_take s _ k hk' hall]; exact decide_eq_true (by omega)⟩ (by omega) rfl rfl (Nat.le_refl _) ?_ ?_
            · simp (disch := omega) only [wR0, wR1, wR2, wR3, wR4, wR5, wR6, wR7, undef, Prod.mk.injEq, Option.some.injEq, eq_self, UInt8.reduceToNat, Nat.reduceOr, Nat.reduceAnd, Nat.reduceXor, Nat.reduceDiv, if_pos, if_neg, aBin, aStr, aUn, aBeq, aPick, aCi, aIsnil, aStrId, aB2s, aS2b, aBound, aSls, aSl, aSla, aFaddr, partA, aFld, aIaddr, aIaddrA, aIdxS, aIdxA, aLoad, aExt, aNilc, aLenS, aLen, splice, aBuild, shA, allSh, aBslice, aBsl, allShW, elemsA, flatOk, aApp, aMks, aStore, aBox, aCopy, frz, frz.frzL, live, chunks, flat, esz, u8, AV.free, AV.free.freeL, AV.flat, AV.flat.flatL, boo, int, str, ↓reduceIte, ne_eq, reduceCtorEq, Int.reduceToNat, Nat.reduceEqDiff, Nat.reduceAdd, Nat.reduceSub, Nat.reduceMul, Int.reduceAdd, Int.reduceMul, Int.reduceSub, Int.reduceLT, Int.reduceLE, Int.reduceEq, Int.reduceNe, Nat.reduceLeDiff, Nat.reduceLT, Int.reduceNeg, Nat.reducePow, Nat.reduceMod, ByteArray.size]
            · simp (disch := omega) only [wR0, wR1, wR2, wR3, wR4, wR5, wR6, wR7, undef, Prod.mk.injEq, Option.some.injEq, eq_self, UInt8.reduceToNat, Nat.reduceOr, Nat.reduceAnd, Nat.reduceXor, Nat.reduceDiv, if_pos, if_neg, aBin, aStr, aUn, aBeq, aPick, aCi, aIsnil, aStrId, aB2s, aS2b, aBound, aSls, aSl, aSla, aFaddr, partA, aFld, aIaddr, aIaddrA, aIdxS, aIdxA, aLoad, aExt, aNilc, aLenS, aLen, splice, aBuild, shA, allSh, aBslice, aBsl, allShW, elemsA, flatOk, aApp, aMks, aStore, aBox, aCopy, frz, frz.frzL, live, chunks, flat, esz, u8, AV.free, AV.free.freeL, AV.flat, AV.flat.flatL, boo, int, str, ↓reduceIte, ne_eq, reduceCtorEq, Int.reduceToNat, Nat.reduceEqDiff, Nat.reduceAdd, Nat.reduceSub, Nat.reduceMul, Int.reduceAdd, Int.reduceMul, Int.reduceSub, Int.reduceLT, Int.reduceLE, Int.reduceEq, Int.reduceNe, Nat.reduceLeDiff, Nat.reduceLT, Int.reduceNeg, Nat.reducePow, Nat.reduceMod, ByteArray.size]
      · simp only [decide_eq_false_iff_not] at h
        obtain rfl : k = s.length := by omega
        rw [List.take_length] at hall
        have hu := undecV_ok' c0 hall c2'
        repeat (first | refine SWp.seq ?_ | refine SWp.block ?_ | refine SWp.condT rfl ?_ | refine SWp.condF rfl ?_ | refine LoopAt.next ?_ | refine And.intro (by omega) ?_ | ((first | refine SWp.reg ?_ | refine SWp.skip ?_ | refine SWp.exit ?_ | refine SWp.ret ?_ | refine (fun h => h : AOps _ _ _ _ → AOps _ _ _ _) ?_); simp (disch := omega) only [wR0, wR1, wR2, wR3, wR4, wR5, wR6, wR7, undef, Prod.mk.injEq, Option.some.injEq, eq_self, UInt8.reduceToNat, Nat.reduceOr, Nat.reduceAnd, Nat.reduceXor, Nat.reduceDiv, if_pos, if_neg, aBin, aStr, aUn, aBeq, aPick, aCi, aIsnil, aStrId, aB2s, aS2b, aBound, aSls, aSl, aSla, aFaddr, partA, aFld, aIaddr, aIaddrA, aIdxS, aIdxA, aLoad, aExt, aNilc, aLenS, aLen, splice, aBuild, shA, allSh, aBslice, aBsl, allShW, elemsA, flatOk, aApp, aMks, aStore, aBox, aCopy, frz, frz.frzL, live, chunks, flat, esz, u8, AV.free, AV.free.freeL, AV.flat, AV.flat.flatL, boo, int, str, ↓reduceIte, ne_eq, reduceCtorEq, Int.reduceToNat, Nat.reduceEqDiff, Nat.reduceAdd, Nat.reduceSub, Nat.reduceMul, Int.reduceAdd, Int.reduceMul, Int.reduceSub, Int.reduceLT, Int.reduceLE, Int.reduceEq, Int.reduceNe, Nat.reduceLeDiff, Nat.reduceLT, Int.reduceNeg, Nat.reducePow, Nat.reduceMod, ByteArray.size]))
        refine goC_p _ (.inl ⟨rfl, ref_number_c s hs hall⟩) ?_
        repeat (first | refine SWp.seq ?_ | refine SWp.block ?_ | refine SWp.condT rfl ?_ | refine SWp.condF rfl ?_ | refine LoopAt.next ?_ | refine And.intro (by omega) ?_ | ((first | refine SWp.reg ?_ | refine SWp.skip ?_ | refine SWp.exit ?_ | refine SWp.ret ?_ | refine (fun h => h : AOps _ _ _ _ → AOps _ _ _ _) ?_); simp (disch := omega) only [wR0, wR1, wR2, wR3, wR4, wR5, wR6, wR7, undef, Prod.mk.injEq, Option.some.injEq, eq_self, UInt8.reduceToNat, Nat.reduceOr, Nat.reduceAnd, Nat.reduceXor, Nat.reduceDiv, if_pos, if_neg, aBin, aStr, aUn, aBeq, aPick, aCi, aIsnil, aStrId, aB2s, aS2b, aBound, aSls, aSl, aSla, aFaddr, partA, aFld, aIaddr, aIaddrA, aIdxS, aIdxA, aLoad, aExt, aNilc, aLenS, aLen, splice, aBuild, shA, allSh, aBslice, aBsl, allShW, elemsA, flatOk, aApp, aMks, aStore, aBox, aCopy, frz, frz.frzL, live, chunks, flat, esz, u8, AV.free, AV.free.freeL, AV.flat, AV.flat.flatL, boo, int, str, ↓reduceIte, ne_eq, reduceCtorEq, Int.reduceToNat, Nat.reduceEqDiff, Nat.reduceAdd, Nat.reduceSub, Nat.reduceMul, Int.reduceAdd, Int.reduceMul, Int.reduceSub, Int.reduceLT, Int.reduceLE, Int.reduceEq, Int.reduceNe, Nat.reduceLeDiff, Nat.reduceLT, Int.reduceNeg, Nat.reducePow, Nat.reduceMod, ByteArray.size, hu]))

theorem dec_big {m d : Nat} (hm : 0 < m) (hd : d < 10) : Lib.decDigits (m * 10 + d) = Lib.decDigits m ++ [UInt8.ofNat (48 + d)] := by
  conv => lhs; rw [Lib.decDigits]
  rw [dif_neg (by omega), show (m * 10 + d) / 10 = m by omega, show (m * 10 + d) % 10 = d by omega]
theorem digit_back {c : UInt8} (h : digit 10 c = true) : 48 ≤ c.toNat ∧ c.toNat - 48 < 10 ∧ UInt8.ofNat (48 + (c.toNat - 48)) = c := by
  have h := of_decide_eq_true h
  refine ⟨h.1, h.2, ?_⟩
  apply UInt8.toNat_inj.1
  rw [UInt8.toNat_ofNat']; omega
theorem num_dec : ∀ (s : List UInt8) (m n : Nat), s.all (digit 10) = true → 0 < m → num 10 m s = some n → Lib.decDigits n = Lib.decDigits m ++ s
  | [], m, n, _, _, h => by simp only [num, Option.some.injEq] at h; rw [h]; simp
  | c :: s, m, n, ha, hm, h => by
    simp only [List.all_cons, Bool.and_eq_true] at ha
    obtain ⟨h1, h2, h3⟩ := digit_back ha.1
    simp only [num] at h
    split at h
    · simp at h
    · rw [num_dec s _ n ha.2 (by omega) h, dec_big hm h2, h3]; simp
theorem undec_dec (s : List UInt8) (h : (undecV s).2 = 0) : decL (undecV s).1 = s ∧ 0 ≤ (undecV s).1 ∧ (undecV s).1 ≤ 9223372036854775807 := by
  unfold undecV at h ⊢
  split at h
  · simp at h
  · rename_i hc
    rw [if_neg hc]
    rw [not_or, not_or] at hc
    obtain ⟨h0, h1, h2⟩ := hc
    have ha : s.all (digit 10) = true := by simpa using h1
    unfold numV at h ⊢
    cases hn : num 10 0 s with
    | none => rw [hn] at h; simp at h
    | some n =>
      have key : Lib.decDigits n = s := by
        cases s with
        | nil => exact absurd rfl h0
        | cons c r =>
          simp only [List.all_cons, Bool.and_eq_true] at ha
          obtain ⟨g1, g2, g3⟩ := digit_back ha.1
          simp only [num] at hn
          split at hn
          · simp at hn
          · rw [Nat.zero_mul, Nat.zero_add] at hn
            have hone : Lib.decDigits (c.toNat - 48) = [c] := by rw [Lib.decDigits, dif_pos g2, g3]
            cases r with
            | nil => simp only [num, Option.some.injEq] at hn; rw [← hn]; exact hone
            | cons e r =>
              have hc48 : c ≠ 48 := by
                intro e'
                exact h2 ⟨by simp, by simpa using e'⟩
              have : c.toNat ≠ 48 := fun e' => hc48 (UInt8.toNat_inj.1 e')
              rw [num_dec _ _ n ha.2 (by omega) hn, hone]; rfl
      have hle : n ≤ most := by
        have : ∀ (s : List UInt8) (m n : Nat), m ≤ most → num 10 m s = some n → n ≤ most := by
          intro s
          induction s with
          | nil => intro m n h h'; simp only [num, Option.some.injEq] at h'; omega
          | cons c s ih =>
            intro m n h h'
            simp only [num] at h'
            split at h'
            · simp at h'
            · refine ih _ n ?_ h'
              have hm : most = 4611686018427387903 := rfl
              have : c.toNat < 256 := c.toNat_lt
              omega
        exact this s 0 n (Nat.zero_le _) hn
      have hm : most = 4611686018427387903 := rfl
      simp only
      refine ⟨?_, by omega, by omega⟩
      unfold decL
      rw [if_neg (by omega), Int.toNat_natCast, key]

theorem undecV_bounds (s : List UInt8) : (undecV s).2 = 0 ∨ (undecV s).2 = 3 ∨ (undecV s).2 = 4 := by
  unfold undecV numV
  split
  · exact .inr (.inl rfl)
  · cases num 10 0 s
    · exact .inr (.inr rfl)
    · exact .inl rfl

set_option maxHeartbeats 1000000 in
set_option maxRecDepth 100000 in
theorem CodecDec_law' [Tabs Tryd.prog] (ht : Tabs.tab Tryd.prog 1 = some powTab) (n : Int) (h1 : IntKind.i64.min ≤ n) (h2 : n ≤ IntKind.i64.max) (s : List UInt8) (hs : s.length ≤ maxLen) : Con Tryd.prog n_drayagelaw01_CodecDec [int n, str s] (boo true) := by
  have h1 : -9223372036854775808 ≤ n := h1
  have h2 : n ≤ 9223372036854775807 := h2
  refine Con.of' mix Tryd.func5 rfl Tryd.ntmps5 e_drayagelaw01_CodecDec r_drayagelaw01_CodecDec (by simp) rfl rfl ?_
  unfold s_drayagelaw01_CodecDec
  repeat (first | refine SWp.seq ?_ | refine SWp.block ?_ | refine SWp.condT rfl ?_ | refine SWp.condF rfl ?_ | refine LoopAt.next ?_ | refine And.intro (by omega) ?_ | ((first | refine SWp.reg ?_ | refine SWp.skip ?_ | refine SWp.exit ?_ | refine SWp.ret ?_ | refine (fun h => h : AOps _ _ _ _ → AOps _ _ _ _) ?_); simp (disch := omega) only [wR0, wR1, wR2, wR3, wR4, wR5, wR6, wR7, undef, Prod.mk.injEq, Option.some.injEq, eq_self, UInt8.reduceToNat, Nat.reduceOr, Nat.reduceAnd, Nat.reduceXor, Nat.reduceDiv, if_pos, if_neg, aBin, aStr, aUn, aBeq, aPick, aCi, aIsnil, aStrId, aB2s, aS2b, aBound, aSls, aSl, aSla, aFaddr, partA, aFld, aIaddr, aIaddrA, aIdxS, aIdxA, aLoad, aExt, aNilc, aLenS, aLen, splice, aBuild, shA, allSh, aBslice, aBsl, allShW, elemsA, flatOk, aApp, aMks, aStore, aBox, aCopy, frz, frz.frzL, live, chunks, flat, esz, u8, AV.free, AV.free.freeL, AV.flat, AV.flat.flatL, boo, int, str, ↓reduceIte, ne_eq, reduceCtorEq, Int.reduceToNat, Nat.reduceEqDiff, Nat.reduceAdd, Nat.reduceSub, Nat.reduceMul, Int.reduceAdd, Int.reduceMul, Int.reduceSub, Int.reduceLT, Int.reduceLE, Int.reduceEq, Int.reduceNe, Nat.reduceLeDiff, Nat.reduceLT, Int.reduceNeg, Nat.reducePow, Nat.reduceMod, ByteArray.size]))
  refine goC_p _ (.inl ⟨rfl, law01_awake_c⟩) ?_
  by_cases c2 : 2000 < (s.length : Int)
  · have d2 := decide_eq_true c2
    repeat (first | refine SWp.seq ?_ | refine SWp.block ?_ | refine SWp.condT rfl ?_ | refine SWp.condF rfl ?_ | refine LoopAt.next ?_ | refine And.intro (by omega) ?_ | ((first | refine SWp.reg ?_ | refine SWp.skip ?_ | refine SWp.exit ?_ | refine SWp.ret ?_ | refine (fun h => h : AOps _ _ _ _ → AOps _ _ _ _) ?_); simp (disch := omega) only [wR0, wR1, wR2, wR3, wR4, wR5, wR6, wR7, undef, Prod.mk.injEq, Option.some.injEq, eq_self, UInt8.reduceToNat, Nat.reduceOr, Nat.reduceAnd, Nat.reduceXor, Nat.reduceDiv, if_pos, if_neg, aBin, aStr, aUn, aBeq, aPick, aCi, aIsnil, aStrId, aB2s, aS2b, aBound, aSls, aSl, aSla, aFaddr, partA, aFld, aIaddr, aIaddrA, aIdxS, aIdxA, aLoad, aExt, aNilc, aLenS, aLen, splice, aBuild, shA, allSh, aBslice, aBsl, allShW, elemsA, flatOk, aApp, aMks, aStore, aBox, aCopy, frz, frz.frzL, live, chunks, flat, esz, u8, AV.free, AV.free.freeL, AV.flat, AV.flat.flatL, boo, int, str, ↓reduceIte, ne_eq, reduceCtorEq, Int.reduceToNat, Nat.reduceEqDiff, Nat.reduceAdd, Nat.reduceSub, Nat.reduceMul, Int.reduceAdd, Int.reduceMul, Int.reduceSub, Int.reduceLT, Int.reduceLE, Int.reduceEq, Int.reduceNe, Nat.reduceLeDiff, Nat.reduceLT, Int.reduceNeg, Nat.reducePow, Nat.reduceMod, ByteArray.size, d2]))
  have d2 := decide_eq_false c2
  have hs' : s.length ≤ 1000000 := by omega
  have dd : decide (decL n = decL n) = true := decide_eq_true rfl
  repeat (first | refine SWp.seq ?_ | refine SWp.block ?_ | refine SWp.condT rfl ?_ | refine SWp.condF rfl ?_ | refine LoopAt.next ?_ | refine And.intro (by omega) ?_ | ((first | refine SWp.reg ?_ | refine SWp.skip ?_ | refine SWp.exit ?_ | refine SWp.ret ?_ | refine (fun h => h : AOps _ _ _ _ → AOps _ _ _ _) ?_); simp (disch := omega) only [wR0, wR1, wR2, wR3, wR4, wR5, wR6, wR7, undef, Prod.mk.injEq, Option.some.injEq, eq_self, UInt8.reduceToNat, Nat.reduceOr, Nat.reduceAnd, Nat.reduceXor, Nat.reduceDiv, if_pos, if_neg, aBin, aStr, aUn, aBeq, aPick, aCi, aIsnil, aStrId, aB2s, aS2b, aBound, aSls, aSl, aSla, aFaddr, partA, aFld, aIaddr, aIaddrA, aIdxS, aIdxA, aLoad, aExt, aNilc, aLenS, aLen, splice, aBuild, shA, allSh, aBslice, aBsl, allShW, elemsA, flatOk, aApp, aMks, aStore, aBox, aCopy, frz, frz.frzL, live, chunks, flat, esz, u8, AV.free, AV.free.freeL, AV.flat, AV.flat.flatL, boo, int, str, ↓reduceIte, ne_eq, reduceCtorEq, Int.reduceToNat, Nat.reduceEqDiff, Nat.reduceAdd, Nat.reduceSub, Nat.reduceMul, Int.reduceAdd, Int.reduceMul, Int.reduceSub, Int.reduceLT, Int.reduceLE, Int.reduceEq, Int.reduceNe, Nat.reduceLeDiff, Nat.reduceLT, Int.reduceNeg, Nat.reducePow, Nat.reduceMod, ByteArray.size, d2]))
  refine goC_p _ (.inl ⟨rfl, codec_Undec_c s hs'⟩) ?_
  repeat (first | refine SWp.seq ?_ | refine SWp.block ?_ | refine SWp.condT rfl ?_ | refine SWp.condF rfl ?_ | refine LoopAt.next ?_ | refine And.intro (by omega) ?_ | ((first | refine SWp.reg ?_ | refine SWp.skip ?_ | refine SWp.exit ?_ | refine SWp.ret ?_ | refine (fun h => h : AOps _ _ _ _ → AOps _ _ _ _) ?_); simp (disch := omega) only [wR0, wR1, wR2, wR3, wR4, wR5, wR6, wR7, undef, Prod.mk.injEq, Option.some.injEq, eq_self, UInt8.reduceToNat, Nat.reduceOr, Nat.reduceAnd, Nat.reduceXor, Nat.reduceDiv, if_pos, if_neg, aBin, aStr, aUn, aBeq, aPick, aCi, aIsnil, aStrId, aB2s, aS2b, aBound, aSls, aSl, aSla, aFaddr, partA, aFld, aIaddr, aIaddrA, aIdxS, aIdxA, aLoad, aExt, aNilc, aLenS, aLen, splice, aBuild, shA, allSh, aBslice, aBsl, allShW, elemsA, flatOk, aApp, aMks, aStore, aBox, aCopy, frz, frz.frzL, live, chunks, flat, esz, u8, AV.free, AV.free.freeL, AV.flat, AV.flat.flatL, boo, int, str, ↓reduceIte, ne_eq, reduceCtorEq, Int.reduceToNat, Nat.reduceEqDiff, Nat.reduceAdd, Nat.reduceSub, Nat.reduceMul, Int.reduceAdd, Int.reduceMul, Int.reduceSub, Int.reduceLT, Int.reduceLE, Int.reduceEq, Int.reduceNe, Nat.reduceLeDiff, Nat.reduceLT, Int.reduceNeg, Nat.reducePow, Nat.reduceMod, ByteArray.size]))
  refine goC_p _ (.inl ⟨rfl, ref_Undec_c s hs'⟩) ?_
  repeat (first | refine SWp.seq ?_ | refine SWp.block ?_ | refine SWp.condT rfl ?_ | refine SWp.condF rfl ?_ | refine LoopAt.next ?_ | refine And.intro (by omega) ?_ | ((first | refine SWp.reg ?_ | refine SWp.skip ?_ | refine SWp.exit ?_ | refine SWp.ret ?_ | refine (fun h => h : AOps _ _ _ _ → AOps _ _ _ _) ?_); simp (disch := omega) only [wR0, wR1, wR2, wR3, wR4, wR5, wR6, wR7, undef, Prod.mk.injEq, Option.some.injEq, eq_self, UInt8.reduceToNat, Nat.reduceOr, Nat.reduceAnd, Nat.reduceXor, Nat.reduceDiv, if_pos, if_neg, aBin, aStr, aUn, aBeq, aPick, aCi, aIsnil, aStrId, aB2s, aS2b, aBound, aSls, aSl, aSla, aFaddr, partA, aFld, aIaddr, aIaddrA, aIdxS, aIdxA, aLoad, aExt, aNilc, aLenS, aLen, splice, aBuild, shA, allSh, aBslice, aBsl, allShW, elemsA, flatOk, aApp, aMks, aStore, aBox, aCopy, frz, frz.frzL, live, chunks, flat, esz, u8, AV.free, AV.free.freeL, AV.flat, AV.flat.flatL, boo, int, str, ↓reduceIte, ne_eq, reduceCtorEq, Int.reduceToNat, Nat.reduceEqDiff, Nat.reduceAdd, Nat.reduceSub, Nat.reduceMul, Int.reduceAdd, Int.reduceMul, Int.reduceSub, Int.reduceLT, Int.reduceLE, Int.reduceEq, Int.reduceNe, Nat.reduceLeDiff, Nat.reduceLT, Int.reduceNeg, Nat.reducePow, Nat.reduceMod, ByteArray.size]))
  refine goC_p _ (.inl ⟨rfl, codec_Dec_c ht n h1 h2⟩) ?_
  repeat (first | refine SWp.seq ?_ | refine SWp.block ?_ | refine SWp.condT rfl ?_ | refine SWp.condF rfl ?_ | refine LoopAt.next ?_ | refine And.intro (by omega) ?_ | ((first | refine SWp.reg ?_ | refine SWp.skip ?_ | refine SWp.exit ?_ | refine SWp.ret ?_ | refine (fun h => h : AOps _ _ _ _ → AOps _ _ _ _) ?_); simp (disch := omega) only [wR0, wR1, wR2, wR3, wR4, wR5, wR6, wR7, undef, Prod.mk.injEq, Option.some.injEq, eq_self, UInt8.reduceToNat, Nat.reduceOr, Nat.reduceAnd, Nat.reduceXor, Nat.reduceDiv, if_pos, if_neg, aBin, aStr, aUn, aBeq, aPick, aCi, aIsnil, aStrId, aB2s, aS2b, aBound, aSls, aSl, aSla, aFaddr, partA, aFld, aIaddr, aIaddrA, aIdxS, aIdxA, aLoad, aExt, aNilc, aLenS, aLen, splice, aBuild, shA, allSh, aBslice, aBsl, allShW, elemsA, flatOk, aApp, aMks, aStore, aBox, aCopy, frz, frz.frzL, live, chunks, flat, esz, u8, AV.free, AV.free.freeL, AV.flat, AV.flat.flatL, boo, int, str, ↓reduceIte, ne_eq, reduceCtorEq, Int.reduceToNat, Nat.reduceEqDiff, Nat.reduceAdd, Nat.reduceSub, Nat.reduceMul, Int.reduceAdd, Int.reduceMul, Int.reduceSub, Int.reduceLT, Int.reduceLE, Int.reduceEq, Int.reduceNe, Nat.reduceLeDiff, Nat.reduceLT, Int.reduceNeg, Nat.reducePow, Nat.reduceMod, ByteArray.size]))
  refine goC_p _ (.inl ⟨rfl, ref_Dec_c n h2⟩) ?_
  by_cases he : (undecV s).2 = 0
  · obtain ⟨k1, k2, k3⟩ := undec_dec s he
    have de := decide_eq_true he
    have ds : decide (s = s) = true := decide_eq_true rfl
    have hd := codec_Dec_c ht (undecV s).1 (by omega) k3
    rw [k1] at hd
    repeat (first | refine SWp.seq ?_ | refine SWp.block ?_ | refine SWp.condT rfl ?_ | refine SWp.condF rfl ?_ | refine LoopAt.next ?_ | refine And.intro (by omega) ?_ | ((first | refine SWp.reg ?_ | refine SWp.skip ?_ | refine SWp.exit ?_ | refine SWp.ret ?_ | refine (fun h => h : AOps _ _ _ _ → AOps _ _ _ _) ?_); simp (disch := omega) only [wR0, wR1, wR2, wR3, wR4, wR5, wR6, wR7, undef, Prod.mk.injEq, Option.some.injEq, eq_self, UInt8.reduceToNat, Nat.reduceOr, Nat.reduceAnd, Nat.reduceXor, Nat.reduceDiv, if_pos, if_neg, aBin, aStr, aUn, aBeq, aPick, aCi, aIsnil, aStrId, aB2s, aS2b, aBound, aSls, aSl, aSla, aFaddr, partA, aFld, aIaddr, aIaddrA, aIdxS, aIdxA, aLoad, aExt, aNilc, aLenS, aLen, splice, aBuild, shA, allSh, aBslice, aBsl, allShW, elemsA, flatOk, aApp, aMks, aStore, aBox, aCopy, frz, frz.frzL, live, chunks, flat, esz, u8, AV.free, AV.free.freeL, AV.flat, AV.flat.flatL, boo, int, str, ↓reduceIte, ne_eq, reduceCtorEq, Int.reduceToNat, Nat.reduceEqDiff, Nat.reduceAdd, Nat.reduceSub, Nat.reduceMul, Int.reduceAdd, Int.reduceMul, Int.reduceSub, Int.reduceLT, Int.reduceLE, Int.reduceEq, Int.reduceNe, Nat.reduceLeDiff, Nat.reduceLT, Int.reduceNeg, Nat.reducePow, Nat.reduceMod, ByteArray.size, dd, de]))
    refine goC_p _ (.inl ⟨rfl, hd⟩) ?_
    repeat (first | refine SWp.seq ?_ | refine SWp.block ?_ | refine SWp.condT rfl ?_ | refine SWp.condF rfl ?_ | refine LoopAt.next ?_ | refine And.intro (by omega) ?_ | ((first | refine SWp.reg ?_ | refine SWp.skip ?_ | refine SWp.exit ?_ | refine SWp.ret ?_ | refine (fun h => h : AOps _ _ _ _ → AOps _ _ _ _) ?_); simp (disch := omega) only [wR0, wR1, wR2, wR3, wR4, wR5, wR6, wR7, undef, Prod.mk.injEq, Option.some.injEq, eq_self, UInt8.reduceToNat, Nat.reduceOr, Nat.reduceAnd, Nat.reduceXor, Nat.reduceDiv, if_pos, if_neg, aBin, aStr, aUn, aBeq, aPick, aCi, aIsnil, aStrId, aB2s, aS2b, aBound, aSls, aSl, aSla, aFaddr, partA, aFld, aIaddr, aIaddrA, aIdxS, aIdxA, aLoad, aExt, aNilc, aLenS, aLen, splice, aBuild, shA, allSh, aBslice, aBsl, allShW, elemsA, flatOk, aApp, aMks, aStore, aBox, aCopy, frz, frz.frzL, live, chunks, flat, esz, u8, AV.free, AV.free.freeL, AV.flat, AV.flat.flatL, boo, int, str, ↓reduceIte, ne_eq, reduceCtorEq, Int.reduceToNat, Nat.reduceEqDiff, Nat.reduceAdd, Nat.reduceSub, Nat.reduceMul, Int.reduceAdd, Int.reduceMul, Int.reduceSub, Int.reduceLT, Int.reduceLE, Int.reduceEq, Int.reduceNe, Nat.reduceLeDiff, Nat.reduceLT, Int.reduceNeg, Nat.reducePow, Nat.reduceMod, ByteArray.size, ds]))
  · have de := decide_eq_false he
    repeat (first | refine SWp.seq ?_ | refine SWp.block ?_ | refine SWp.condT rfl ?_ | refine SWp.condF rfl ?_ | refine LoopAt.next ?_ | refine And.intro (by omega) ?_ | ((first | refine SWp.reg ?_ | refine SWp.skip ?_ | refine SWp.exit ?_ | refine SWp.ret ?_ | refine (fun h => h : AOps _ _ _ _ → AOps _ _ _ _) ?_); simp (disch := omega) only [wR0, wR1, wR2, wR3, wR4, wR5, wR6, wR7, undef, Prod.mk.injEq, Option.some.injEq, eq_self, UInt8.reduceToNat, Nat.reduceOr, Nat.reduceAnd, Nat.reduceXor, Nat.reduceDiv, if_pos, if_neg, aBin, aStr, aUn, aBeq, aPick, aCi, aIsnil, aStrId, aB2s, aS2b, aBound, aSls, aSl, aSla, aFaddr, partA, aFld, aIaddr, aIaddrA, aIdxS, aIdxA, aLoad, aExt, aNilc, aLenS, aLen, splice, aBuild, shA, allSh, aBslice, aBsl, allShW, elemsA, flatOk, aApp, aMks, aStore, aBox, aCopy, frz, frz.frzL, live, chunks, flat, esz, u8, AV.free, AV.free.freeL, AV.flat, AV.flat.flatL, boo, int, str, ↓reduceIte, ne_eq, reduceCtorEq, Int.reduceToNat, Nat.reduceEqDiff, Nat.reduceAdd, Nat.reduceSub, Nat.reduceMul, Int.reduceAdd, Int.reduceMul, Int.reduceSub, Int.reduceLT, Int.reduceLE, Int.reduceEq, Int.reduceNe, Nat.reduceLeDiff, Nat.reduceLT, Int.reduceNeg, Nat.reducePow, Nat.reduceMod, ByteArray.size, dd, de]))

/-- The tables that the law's row tells of. -/
@[reducible] def CodecDec_tabs : Tabs Tryd.prog := ⟨fun g => if g = 1 then some powTab else none⟩
theorem laid_var {P : Program} {w : World} {n : String} {d : DataW Unit} : ∀ {l : List (String × DataW Unit)} {ps : List MemPlace}, DataW.LaidVars P w l ps → (n, d) ∈ l →
    ∃ g t cs fuel p, P.globalNamed n = some g ∧ (P.globals[g]?).map (·.type) = some t ∧ w.var? P n = some cs ∧ DataW.trod (fun _ => ()) P w 0 (fun _ => true) false fuel t cs.toList = some (d, p)
  | [], _, _, hm => by simp at hm
  | (n', d') :: r, ps, h, hm => by
    obtain ⟨g, t, cs, fuel, p, q, h1, h2, h3, h4, h5, _⟩ := h
    rcases List.mem_cons.1 hm with e | hm
    · cases e; exact ⟨g, t, cs, fuel, p, h1, h2, h3, h4⟩
    · exact laid_var h5 hm
theorem CodecDec_tabOk (W : World) (h : laidMetH Tryd.prog Rows.codecDecRow.laid W) : @TabOk Tryd.prog CodecDec_tabs (all W).S W := by
  rw [MakeChecks.laidMetH_plain _ _ _ (by kernel_rfl)] at h
  obtain ⟨ps, h, _⟩ := h
  obtain ⟨g, t, cs, fuel, p, h1, h2, h3, h4⟩ := laid_var (n := "internal/strconv.uint64pow10") (d := Rows.laid_internal_strconv_uint64pow10) h (by simp [Rows.codecDecRow])
  intro g' xs hg
  simp only [CodecDec_tabs, Tabs.tab] at hg
  split at hg
  · rename_i e
    subst e
    cases hg
    obtain rfl := Option.some.inj (globPow.symm.trans h1)
    have hty : (Tryd.prog.globals[1]?).map (·.type) = some 80 := by kernel_rfl
    obtain rfl := Option.some.inj (hty.symm.trans h2)
    have hcs := Lib.cells_of_tab (zs := Lib.pow10Tab) Tryd.underlying80 Tryd.underlying38 (by kernel_rfl) (by kernel_rfl) h4
    unfold World.var? at h3
    rw [h1, Option.bind_some] at h3
    split at h3
    · rename_i cs' E fr hheap
      simp only [Option.some.injEq] at h3
      subst h3
      refine ⟨lt_of_some hheap, free_sc _, Lib.pow10Tab.map (Value.int .u64), E, fr, rdL_sc _, ?_, ?_⟩
      · rw [hheap, ← hcs]
      · intro v hv
        obtain ⟨z, _, rfl⟩ := List.mem_map.1 hv
        rfl
    · simp at h3
  · simp at hg
theorem CodecDec_law (n : Int) (h1 : IntKind.i64.min ≤ n) (h2 : n ≤ IntKind.i64.max) (s : List UInt8) (hs : s.length ≤ maxLen) : @Con Tryd.prog CodecDec_tabs n_drayagelaw01_CodecDec [int n, str s] (boo true) :=
  @CodecDec_law' CodecDec_tabs rfl n h1 h2 s hs
end Go.Proofs.YtdkghcfbhpemfaaDoor.Aw
