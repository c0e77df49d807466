/- The tables; the document's sums of "abc". -/
import Derived.Test.YtmgmlbbbjjnmpaaDoorRefF
import Derived.Test.YtmgmlbbbjjnmpaaDoorCrcA
namespace Go.Proofs.YtmgmlbbbjjnmpaaDoor.Aw
open Go
set_option linter.unusedSimpArgs false
set_option linter.unusedVariables false

def md5Tab : List UInt32 := [3614090360, 3905402710, 606105819, 3250441966, 4118548399, 1200080426, 2821735955, 4249261313, 1770035416, 2336552879, 4294925233, 2304563134, 1804603682, 4254626195, 2792965006, 1236535329, 4129170786, 3225465664, 643717713, 3921069994, 3593408605, 38016083, 3634488961, 3889429448, 568446438, 3275163606, 4107603335, 1163531501, 2850285829, 4243563512, 1735328473, 2368359562, 4294588738, 2272392833, 1839030562, 4259657740, 2763975236, 1272893353, 4139469664, 3200236656, 681279174, 3936430074, 3572445317, 76029189, 3654602809, 3873151461, 530742520, 3299628645, 4096336452, 1126891415, 2878612391, 4237533241, 1700485571, 2399980690, 4293915773, 2240044497, 1873313359, 4264355552, 2734768916, 1309151649, 4149444226, 3174756917, 718787259, 3951481745]
def shaTab : List UInt32 := [1116352408, 1899447441, 3049323471, 3921009573, 961987163, 1508970993, 2453635748, 2870763221, 3624381080, 310598401, 607225278, 1426881987, 1925078388, 2162078206, 2614888103, 3248222580, 3835390401, 4022224774, 264347078, 604807628, 770255983, 1249150122, 1555081692, 1996064986, 2554220882, 2821834349, 2952996808, 3210313671, 3336571891, 3584528711, 113926993, 338241895, 666307205, 773529912, 1294757372, 1396182291, 1695183700, 1986661051, 2177026350, 2456956037, 2730485921, 2820302411, 3259730800, 3345764771, 3516065817, 3600352804, 4094571909, 275423344, 430227734, 506948616, 659060556, 883997877, 958139571, 1322822218, 1537002063, 1747873779, 1955562222, 2024104815, 2227730452, 2361852424, 2428436474, 2756734187, 3204031479, 3329325298]
theorem of_abc_1 : ofK md5Tab shaTab turnsU 1 [97, 98, 99] = [144, 1, 80, 152, 60, 210, 79, 176, 214, 150, 63, 125, 40, 225, 127, 114] := by decide +kernel
theorem of_abc_2 : ofK md5Tab shaTab turnsU 2 [97, 98, 99] = [169, 153, 62, 54, 71, 6, 129, 106, 186, 62, 37, 113, 120, 80, 194, 108, 156, 208, 216, 157] := by decide +kernel
theorem of_abc_3 : ofK md5Tab shaTab turnsU 3 [97, 98, 99] = [186, 120, 22, 191, 143, 1, 207, 234, 65, 65, 64, 222, 93, 174, 34, 35, 176, 3, 97, 163, 150, 23, 122, 156, 180, 16, 255, 97, 242, 0, 21, 173] := by decide +kernel
theorem crc_19 : crcMore 0 [49, 50, 51, 52, 53, 54, 55, 56, 57] = 0xcbf43926 := by decide +kernel

theorem kC : AV.sc (.int .u32 3421780262) = w32 3421780262 := rfl
set_option maxRecDepth 100000 in
theorem law02_awake_c [Tabs Tryd.prog] (E : Tb md5Tab shaTab turnsU) : Con Tryd.prog n_drayagelaw02_awake [] (boo true) := by
  refine Con.of' mix Tryd.func7 rfl Tryd.ntmps7 e_drayagelaw02_awake r_drayagelaw02_awake (by simp) rfl rfl ?_
  unfold s_drayagelaw02_awake
  have h1 := digest_Of_c E 1 (by omega) false [97, 98, 99] (by decide)
  have h2 := digest_Of_c E 2 (by omega) false [97, 98, 99] (by decide)
  have h3 := digest_Of_c E 3 (by omega) false [97, 98, 99] (by decide)
  have hc := digest_Crc_c false [49, 50, 51, 52, 53, 54, 55, 56, 57] (by decide)
  rw [crc_19] at hc
  obtain ⟨l1, e1⟩ : ∃ l, l = ofK md5Tab shaTab turnsU 1 [97, 98, 99] := ⟨_, rfl⟩
  obtain ⟨l2, e2⟩ : ∃ l, l = ofK md5Tab shaTab turnsU 2 [97, 98, 99] := ⟨_, rfl⟩
  obtain ⟨l3, e3⟩ : ∃ l, l = ofK md5Tab shaTab turnsU 3 [97, 98, 99] := ⟨_, rfl⟩
  rw [← e1] at h1
  rw [← e2] at h2
  rw [← e3] at h3
  rw [of_abc_1] at e1
  rw [of_abc_2] at e2
  rw [of_abc_3] at e3
  have n1 : l1.length = 16 := by rw [e1]; rfl
  have n2 : l2.length = 20 := by rw [e2]; rfl
  have n3 : l3.length = 32 := by rw [e3]; rfl
  obtain ⟨q1, f1⟩ : ∃ q, q = l1.take 4 := ⟨_, rfl⟩
  obtain ⟨q2, f2⟩ : ∃ q, q = l2.take 4 := ⟨_, rfl⟩
  obtain ⟨q3, f3⟩ : ∃ q, q = l3.take 4 := ⟨_, rfl⟩
  have t1 : q1.toArray = #[144, 1, 80, 152] := by rw [f1, e1]; rfl
  have t2 : q2.toArray = #[169, 153, 62, 54] := by rw [f2, e2]; rfl
  have t3 : q3.toArray = #[186, 120, 22, 191] := by rw [f3, e3]; rfl
  repeat (first | refine SWp.seq ?_ | refine SWp.block ?_ | refine SWp.condT rfl ?_ | refine SWp.condF rfl ?_ | refine LoopAt.next ?_ | refine And.intro (by omega) ?_ | ((first | refine SWp.reg ?_ | refine SWp.skip ?_ | refine SWp.exit ?_ | refine SWp.ret ?_ | refine (fun h => h : AOps _ _ _ _ → AOps _ _ _ _) ?_); simp (disch := omega) only [wX, wY, wR0, wR1, wR2, wR3, wR4, wR5, wR6, wR7, undef, Prod.mk.injEq, Option.some.injEq, eq_self, UInt8.reduceToNat, Nat.reduceOr, Nat.reduceAnd, Nat.reduceXor, Nat.reduceDiv, if_pos, if_neg, aStr, aBeq, aPick, aIsnil, aStrId, aB2s, aS2b, aBound, aSls, aSl, aSla, aFaddr, partA, aFld, aIaddr, aIaddrA, aIdxS, aIdxA, aLoad, aExt, aNilc, aLenS, aLen, splice, aBuild, shA, allSh, aBslice, aIsnilp, aStrz, aBsl, allShW, elemsA, flatOk, aApp, aMks, aStore, aBox, aCopy, frz, frz.frzL, live, chunks, flat, esz, u8, AV.free, AV.free.freeL, AV.flat, AV.flat.flatL, boo, int, str, ↓reduceIte, ne_eq, reduceCtorEq, Int.reduceToNat, Nat.reduceEqDiff, Nat.reduceAdd, Nat.reduceSub, Nat.reduceMul, Int.reduceAdd, Int.reduceMul, Int.reduceSub, Int.reduceLT, Int.reduceLE, Int.reduceEq, Int.reduceNe, Nat.reduceLeDiff, Nat.reduceLT, Int.reduceNeg, Nat.reducePow, Nat.reduceMod, ByteArray.size]))
  refine goC_p _ (.inl ⟨rfl, h1⟩) ?_
  repeat (first | refine SWp.seq ?_ | refine SWp.block ?_ | refine SWp.condT rfl ?_ | refine SWp.condF rfl ?_ | refine LoopAt.next ?_ | refine And.intro (by omega) ?_ | ((first | refine SWp.reg ?_ | refine SWp.skip ?_ | refine SWp.exit ?_ | refine SWp.ret ?_ | refine (fun h => h : AOps _ _ _ _ → AOps _ _ _ _) ?_); simp (disch := omega) only [wX, wY, wR0, wR1, wR2, wR3, wR4, wR5, wR6, wR7, undef, Prod.mk.injEq, Option.some.injEq, eq_self, UInt8.reduceToNat, Nat.reduceOr, Nat.reduceAnd, Nat.reduceXor, Nat.reduceDiv, if_pos, if_neg, aStr, aBeq, aPick, aIsnil, aStrId, aB2s, aS2b, aBound, aSls, aSl, aSla, aFaddr, partA, aFld, aIaddr, aIaddrA, aIdxS, aIdxA, aLoad, aExt, aNilc, aLenS, aLen, splice, aBuild, shA, allSh, aBslice, aIsnilp, aStrz, aBsl, allShW, elemsA, flatOk, aApp, aMks, aStore, aBox, aCopy, frz, frz.frzL, live, chunks, flat, esz, u8, AV.free, AV.free.freeL, AV.flat, AV.flat.flatL, boo, int, str, ↓reduceIte, ne_eq, reduceCtorEq, Int.reduceToNat, Nat.reduceEqDiff, Nat.reduceAdd, Nat.reduceSub, Nat.reduceMul, Int.reduceAdd, Int.reduceMul, Int.reduceSub, Int.reduceLT, Int.reduceLE, Int.reduceEq, Int.reduceNe, Nat.reduceLeDiff, Nat.reduceLT, Int.reduceNeg, Nat.reducePow, Nat.reduceMod, ByteArray.size]))
  refine goC_p _ (.inl ⟨rfl, h2⟩) ?_
  repeat (first | refine SWp.seq ?_ | refine SWp.block ?_ | refine SWp.condT rfl ?_ | refine SWp.condF rfl ?_ | refine LoopAt.next ?_ | refine And.intro (by omega) ?_ | ((first | refine SWp.reg ?_ | refine SWp.skip ?_ | refine SWp.exit ?_ | refine SWp.ret ?_ | refine (fun h => h : AOps _ _ _ _ → AOps _ _ _ _) ?_); simp (disch := omega) only [wX, wY, wR0, wR1, wR2, wR3, wR4, wR5, wR6, wR7, undef, Prod.mk.injEq, Option.some.injEq, eq_self, UInt8.reduceToNat, Nat.reduceOr, Nat.reduceAnd, Nat.reduceXor, Nat.reduceDiv, if_pos, if_neg, aStr, aBeq, aPick, aIsnil, aStrId, aB2s, aS2b, aBound, aSls, aSl, aSla, aFaddr, partA, aFld, aIaddr, aIaddrA, aIdxS, aIdxA, aLoad, aExt, aNilc, aLenS, aLen, splice, aBuild, shA, allSh, aBslice, aIsnilp, aStrz, aBsl, allShW, elemsA, flatOk, aApp, aMks, aStore, aBox, aCopy, frz, frz.frzL, live, chunks, flat, esz, u8, AV.free, AV.free.freeL, AV.flat, AV.flat.flatL, boo, int, str, ↓reduceIte, ne_eq, reduceCtorEq, Int.reduceToNat, Nat.reduceEqDiff, Nat.reduceAdd, Nat.reduceSub, Nat.reduceMul, Int.reduceAdd, Int.reduceMul, Int.reduceSub, Int.reduceLT, Int.reduceLE, Int.reduceEq, Int.reduceNe, Nat.reduceLeDiff, Nat.reduceLT, Int.reduceNeg, Nat.reducePow, Nat.reduceMod, ByteArray.size]))
  refine goC_p _ (.inl ⟨rfl, h3⟩) ?_
  clear e1 e2 e3
  repeat (first | refine SWp.seq ?_ | refine SWp.block ?_ | refine SWp.condT rfl ?_ | refine SWp.condF rfl ?_ | refine LoopAt.next ?_ | refine And.intro (by omega) ?_ | ((first | refine SWp.reg ?_ | refine SWp.skip ?_ | refine SWp.exit ?_ | refine SWp.ret ?_ | refine (fun h => h : AOps _ _ _ _ → AOps _ _ _ _) ?_); simp (disch := omega) only [wX, wY, wR0, wR1, wR2, wR3, wR4, wR5, wR6, wR7, undef, Prod.mk.injEq, Option.some.injEq, eq_self, UInt8.reduceToNat, Nat.reduceOr, Nat.reduceAnd, Nat.reduceXor, Nat.reduceDiv, if_pos, if_neg, aStr, aBeq, aPick, aIsnil, aStrId, aB2s, aS2b, aBound, aSls, aSl, aSla, aFaddr, partA, aFld, aIaddr, aIaddrA, aIdxS, aIdxA, aLoad, aExt, aNilc, aLenS, aLen, splice, aBuild, shA, allSh, aBslice, aIsnilp, aStrz, aBsl, allShW, elemsA, flatOk, aApp, aMks, aStore, aBox, aCopy, frz, frz.frzL, live, chunks, flat, esz, u8, AV.free, AV.free.freeL, AV.flat, AV.flat.flatL, boo, int, str, ↓reduceIte, ne_eq, reduceCtorEq, Int.reduceToNat, Nat.reduceEqDiff, Nat.reduceAdd, Nat.reduceSub, Nat.reduceMul, Int.reduceAdd, Int.reduceMul, Int.reduceSub, Int.reduceLT, Int.reduceLE, Int.reduceEq, Int.reduceNe, Nat.reduceLeDiff, Nat.reduceLT, Int.reduceNeg, Nat.reducePow, Nat.reduceMod, ByteArray.size, n1, n2, n3, ← f1, ← f2, ← f3, t1, t2, t3]))
  refine goC_p _ (.inl ⟨rfl, hc⟩) ?_
  repeat (first | refine SWp.seq ?_ | refine SWp.block ?_ | refine SWp.condT rfl ?_ | refine SWp.condF rfl ?_ | refine LoopAt.next ?_ | refine And.intro (by omega) ?_ | ((first | refine SWp.reg ?_ | refine SWp.skip ?_ | refine SWp.exit ?_ | refine SWp.ret ?_ | refine (fun h => h : AOps _ _ _ _ → AOps _ _ _ _) ?_); simp (disch := omega) only [wX, wY, wR0, wR1, wR2, wR3, wR4, wR5, wR6, wR7, undef, Prod.mk.injEq, Option.some.injEq, eq_self, UInt8.reduceToNat, Nat.reduceOr, Nat.reduceAnd, Nat.reduceXor, Nat.reduceDiv, if_pos, if_neg, aStr, aBeq, aPick, aIsnil, aStrId, aB2s, aS2b, aBound, aSls, aSl, aSla, aFaddr, partA, aFld, aIaddr, aIaddrA, aIdxS, aIdxA, aLoad, aExt, aNilc, aLenS, aLen, splice, aBuild, shA, allSh, aBslice, aIsnilp, aStrz, aBsl, allShW, elemsA, flatOk, aApp, aMks, aStore, aBox, aCopy, frz, frz.frzL, live, chunks, flat, esz, u8, AV.free, AV.free.freeL, AV.flat, AV.flat.flatL, boo, int, str, ↓reduceIte, ne_eq, reduceCtorEq, Int.reduceToNat, Nat.reduceEqDiff, Nat.reduceAdd, Nat.reduceSub, Nat.reduceMul, Int.reduceAdd, Int.reduceMul, Int.reduceSub, Int.reduceLT, Int.reduceLE, Int.reduceEq, Int.reduceNe, Nat.reduceLeDiff, Nat.reduceLT, Int.reduceNeg, Nat.reducePow, Nat.reduceMod, ByteArray.size, kC]))
end Go.Proofs.YtmgmlbbbjjnmpaaDoor.Aw
