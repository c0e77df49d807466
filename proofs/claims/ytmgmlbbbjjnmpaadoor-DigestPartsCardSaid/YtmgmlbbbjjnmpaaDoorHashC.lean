/- What a hash holds after writing; contracts: (*Hash).end. -/
import Derived.Test.YtmgmlbbbjjnmpaaDoorHashB
namespace Go.Proofs.YtmgmlbbbjjnmpaaDoor.Aw
open Go
set_option linter.unusedSimpArgs false
set_option linter.unusedVariables false

theorem length_tailB {b : List UInt8} : (tailB b).length = b.length % 64 := by unfold tailB; rw [List.length_drop]; omega
theorem blocksK_append {step : List UInt32 → List UInt8 → List UInt32} {ss : List UInt32} {m b : List UInt8} : ∀ {k : Nat}, 64 * k ≤ m.length → blocksK step ss (m ++ b) k = blocksK step ss m k
  | 0, _ => rfl
  | k + 1, h => by
    simp only [blocksK]
    rw [blocksK_append (by omega), List.drop_append_of_le_length (by omega), List.take_append_of_le_length (by rw [List.length_drop]; omega)]
theorem blocksK_add {step : List UInt32 → List UInt8 → List UInt32} {ss : List UInt32} {b : List UInt8} {i : Nat} : ∀ {j : Nat}, blocksK step ss b (i + j) = blocksK step (blocksK step ss b i) (b.drop (64 * i)) j
  | 0 => rfl
  | j + 1 => by
    show step (blocksK step ss b (i + j)) ((b.drop (64 * (i + j))).take 64) = _
    rw [blocksK_add, Nat.mul_add, ← List.drop_drop]; rfl

/-- What a hash holds when m has been written. -/
structure Inv (step : List UInt32 → List UInt8 → List UInt32) (s0 : List UInt32) (m : List UInt8) (h : HS) : Prop where
  size : h.size = m.length
  len : h.rest.length = 64
  ss : h.ss = blocksK step s0 m (m.length / 64)
  rest : h.rest.take (m.length % 64) = tailB m

theorem tailB_append {x c : List UInt8} (h : x.length % 64 = 0) : tailB (x ++ c) = tailB c := by
  unfold tailB
  rw [List.length_append, show 64 * ((x.length + c.length) / 64) = x.length + 64 * (c.length / 64) by omega, ← List.drop_drop, List.drop_left]

/-- Whole blocks, then c. -/
theorem inv_whole {step : List UInt32 → List UInt8 → List UInt32} {s0 : List UInt32} {x c rest : List UInt8} {n : Nat} (h : x.length % 64 = 0) (hr : rest.length = 64) (hn : n = (x ++ c).length) : Inv step s0 (x ++ c) ⟨blocksK step (blocksK step s0 x (x.length / 64)) c (c.length / 64), n, overlay rest (tailB c)⟩ := by
  have hl : (x ++ c).length = x.length + c.length := List.length_append
  refine ⟨hn, ?_, ?_, ?_⟩
  · simp only [overlay, List.length_append, List.length_drop, length_tailB]; omega
  · show _ = blocksK step s0 (x ++ c) ((x ++ c).length / 64)
    have e : (x ++ c).length / 64 = x.length / 64 + c.length / 64 := by omega
    have e2 : 64 * (x.length / 64) = x.length := by omega
    rw [e, blocksK_add, blocksK_append (by omega), e2, List.drop_left]
  · have e : (x ++ c).length % 64 = (tailB c).length := by rw [length_tailB]; omega
    show (tailB c ++ rest.drop (tailB c).length).take ((x ++ c).length % 64) = _
    rw [tailB_append h, e, List.take_left]

theorem inv_write {step : List UInt32 → List UInt8 → List UInt32} {s0 : List UInt32} {m : List UInt8} {h : HS} (I : Inv step s0 m h) (b : List UInt8) : Inv step s0 (m ++ b) (writeS step h b) := by
  obtain ⟨h1, h2, h3, h4⟩ := I
  have hl : (m ++ b).length = m.length + b.length := List.length_append
  unfold writeS
  by_cases c1 : h.size % 64 = 0
  · rw [if_pos c1, h3]
    exact inv_whole (by omega) h2 (by omega)
  rw [if_neg c1]
  by_cases c2 : h.size % 64 + b.length < 64
  · rw [if_pos c2]
    refine ⟨by simp only; omega, ?_, ?_, ?_⟩
    · simp only [List.length_append, List.length_take, List.length_drop]; omega
    · show h.ss = _
      rw [show (m ++ b).length / 64 = m.length / 64 by omega, blocksK_append (by omega), h3]
    · have e : (m ++ b).length % 64 = m.length % 64 + b.length := by omega
      have e2 : (h.rest.take (h.size % 64) ++ b).length = m.length % 64 + b.length := by rw [List.length_append, List.length_take]; omega
      show (h.rest.take (h.size % 64) ++ b ++ h.rest.drop (h.size % 64 + b.length)).take ((m ++ b).length % 64) = _
      rw [e, ← e2, List.take_left, h1, h4]
      unfold tailB
      rw [show (m ++ b).length / 64 = m.length / 64 by omega, List.drop_append_of_le_length (by omega)]
  · rw [if_neg c2]
    have hk : (h.rest.take (h.size % 64) ++ b.take (64 - h.size % 64)) = tailB m ++ b.take (64 - h.size % 64) := by rw [h1, h4]
    have hx : (m ++ b.take (64 - h.size % 64)).length = 64 * (m.length / 64) + 64 := by rw [List.length_append, List.length_take]; omega
    have hmb : m ++ b = (m ++ b.take (64 - h.size % 64)) ++ b.drop (64 - h.size % 64) := by rw [List.append_assoc, List.take_append_drop]
    have hb : blocksK step s0 (m ++ b.take (64 - h.size % 64)) ((m ++ b.take (64 - h.size % 64)).length / 64) = step h.ss (h.rest.take (h.size % 64) ++ b.take (64 - h.size % 64)) := by
      rw [hx, show (64 * (m.length / 64) + 64) / 64 = m.length / 64 + 1 by omega]
      show step (blocksK step s0 (m ++ b.take (64 - h.size % 64)) (m.length / 64)) (((m ++ b.take (64 - h.size % 64)).drop (64 * (m.length / 64))).take 64) = _
      rw [blocksK_append (by omega), ← h3, List.drop_append_of_le_length (by omega), hk]
      congr 1
      exact List.take_of_length_le (by rw [List.length_append, List.length_drop, List.length_take]; omega)
    rw [← hb, hmb]
    refine inv_whole (by omega) ?_ ?_
    · rw [List.length_append, List.length_take, List.length_take]; omega
    · rw [← hmb]; omega

/-- What stands behind a message of that size. -/
def endB (kind size : Nat) : List UInt8 := (128 :: List.replicate ((119 - size % 64) % 64) 0) ++ numK kind (8 * size) 8
theorem zeros8 {n : Nat} : (List.replicate n [AV.sc (.int .u8 0)]).flatten = (List.replicate n (0 : UInt8)).map u8 := by
  induction n with
  | zero => rfl
  | succ n ih => simp only [List.replicate_succ, List.flatten_cons, ih, List.map_cons]; rfl

set_option maxRecDepth 100000 in
theorem digest_end_h [Tabs Tryd.prog] (kind : Nat) (hk : 1 ≤ kind ∧ kind ≤ 3) (n size : Nat) (hsz : size ≤ 1000000) (rest : List UInt8) (hr : rest.length = 64) (ss : List UInt32) :
    HCon Tryd.prog n_digest_Hash_end [.op 1000 0 0] [.row false (hashRow kind n size rest 1001 0), .row false (ss.map w32)] (.own 17 3 none 0 (endB kind size).length) [(17, 3, .row false ((endB kind size).map u8)), (1000, 0, .row false (hashRow kind n size rest 1001 0)), (1001, 0, .row false (ss.map w32))] 4 := by
  refine HCon.of' mix Tryd.func25 rfl Tryd.ntmps25 e_digest_Hash_end r_digest_Hash_end (by simp) (by simp [AV.gl, AV.gl.glL]) hash_gl ?_
  unfold s_digest_Hash_end
  obtain ⟨z, hz⟩ : ∃ z, z = (119 - size % 64) % 64 := ⟨_, rfl⟩
  have hz64 : z < 64 := by omega
  have e1 : (119 : Int) - ((size % 64 : Nat) : Int) = ((119 - size % 64 : Nat) : Int) := by omega
  have e2 : ((1 : Int) + (z : Int)).toNat = 1 + z := by omega
  have e3 : IntKind.u64.wrap (8 * (size : Int)) = ((8 * size : Nat) : Int) := by rw [wrap_u64_id (by omega) (by omega)]; omega
  have hset : (List.replicate (1 + z) (0 : UInt8)).drop 1 = List.replicate z 0 := by rw [Nat.add_comm]; rfl
  obtain ⟨pre, hpre⟩ : ∃ pre : List UInt8, pre = 128 :: List.replicate z 0 := ⟨_, rfl⟩
  have hp1 : pre.length = 1 + z := by rw [hpre, List.length_cons, List.length_replicate, Nat.add_comm]
  have hp2 : AV.sc (.int .u8 128) :: (List.replicate z (0 : UInt8)).map u8 = pre.map u8 := by rw [hpre]; rfl
  have hend : endB kind size = pre ++ numK kind (8 * size) 8 := by rw [endB, ← hz, hpre]
  have hnl : (numK kind (8 * size) 8).length = 8 := by unfold numK; split <;> simp [length_leB]
  obtain ⟨nk, hnk⟩ : ∃ nk, nk = numK kind (8 * size) 8 := ⟨_, rfl⟩
  have hn := digest_number_h kind hk n size rest hr ss (8 * size) (by omega) 8 (by omega)
  rw [← hnk] at hn hend hnl
  repeat (first | refine SWp.seq ?_ | refine SWp.block ?_ | refine SWp.condT rfl ?_ | refine SWp.condF rfl ?_ | refine LoopAt.next ?_ | refine And.intro (by omega) ?_ | ((first | refine SWp.reg ?_ | refine SWp.skip ?_ | refine SWp.exit ?_ | refine SWp.ret ?_ | refine (fun h => h : AOps _ _ _ _ → AOps _ _ _ _) ?_); simp (disch := omega) only [wX, wY, wR0, wR1, wR2, wR3, wR4, wR5, wR6, wR7, undef, Prod.mk.injEq, Option.some.injEq, eq_self, UInt8.reduceToNat, Nat.reduceOr, Nat.reduceAnd, Nat.reduceXor, Nat.reduceDiv, if_pos, if_neg, aStr, aBeq, aPick, aIsnil, aStrId, aB2s, aS2b, aBound, aSls, aSl, aSla, aFaddr, partA, aFld, aIaddr, aIaddrA, aIdxS, aIdxA, aLoad, aExt, aNilc, aLenS, aLen, splice, aBuild, shA, allSh, aBslice, aIsnilp, aStrz, aBsl, allShW, elemsA, flatOk, aApp, aMks, aStore, aBox, aCopy, frz, frz.frzL, live, chunks, flat, esz, u8, AV.free, AV.free.freeL, AV.flat, AV.flat.flatL, boo, int, str, ↓reduceIte, ne_eq, reduceCtorEq, Int.reduceToNat, Nat.reduceEqDiff, Nat.reduceAdd, Nat.reduceSub, Nat.reduceMul, Int.reduceAdd, Int.reduceMul, Int.reduceSub, Int.reduceLT, Int.reduceLE, Int.reduceEq, Int.reduceNe, Nat.reduceLeDiff, Nat.reduceLT, Int.reduceNeg, Nat.reducePow, Nat.reduceMod, ByteArray.size, hashRow, e1, ← hz, e2, zeros8, e3, List.length_replicate, hset, hp2, hp1]))
  refine goC_h [(1000, 0), (1001, 0)] 2000 hn (by simp) (by simp) ?_ ?_ ?_
  · simp (disch := omega) only [wX, wY, wR0, wR1, wR2, wR3, wR4, wR5, wR6, wR7, undef, Prod.mk.injEq, Option.some.injEq, eq_self, UInt8.reduceToNat, Nat.reduceOr, Nat.reduceAnd, Nat.reduceXor, Nat.reduceDiv, if_pos, if_neg, aStr, aBeq, aPick, aIsnil, aStrId, aB2s, aS2b, aBound, aSls, aSl, aSla, aFaddr, partA, aFld, aIaddr, aIaddrA, aIdxS, aIdxA, aLoad, aExt, aNilc, aLenS, aLen, splice, aBuild, shA, allSh, aBslice, aIsnilp, aStrz, aBsl, allShW, elemsA, flatOk, aApp, aMks, aStore, aBox, aCopy, frz, frz.frzL, live, chunks, flat, esz, u8, AV.free, AV.free.freeL, AV.flat, AV.flat.flatL, boo, int, str, ↓reduceIte, ne_eq, reduceCtorEq, Int.reduceToNat, Nat.reduceEqDiff, Nat.reduceAdd, Nat.reduceSub, Nat.reduceMul, Int.reduceAdd, Int.reduceMul, Int.reduceSub, Int.reduceLT, Int.reduceLE, Int.reduceEq, Int.reduceNe, Nat.reduceLeDiff, Nat.reduceLT, Int.reduceNeg, Nat.reducePow, Nat.reduceMod, ByteArray.size, hashRow]
  · simp (disch := omega) only [wX, wY, wR0, wR1, wR2, wR3, wR4, wR5, wR6, wR7, undef, Prod.mk.injEq, Option.some.injEq, eq_self, UInt8.reduceToNat, Nat.reduceOr, Nat.reduceAnd, Nat.reduceXor, Nat.reduceDiv, if_pos, if_neg, aStr, aBeq, aPick, aIsnil, aStrId, aB2s, aS2b, aBound, aSls, aSl, aSla, aFaddr, partA, aFld, aIaddr, aIaddrA, aIdxS, aIdxA, aLoad, aExt, aNilc, aLenS, aLen, splice, aBuild, shA, allSh, aBslice, aIsnilp, aStrz, aBsl, allShW, elemsA, flatOk, aApp, aMks, aStore, aBox, aCopy, frz, frz.frzL, live, chunks, flat, esz, u8, AV.free, AV.free.freeL, AV.flat, AV.flat.flatL, boo, int, str, ↓reduceIte, ne_eq, reduceCtorEq, Int.reduceToNat, Nat.reduceEqDiff, Nat.reduceAdd, Nat.reduceSub, Nat.reduceMul, Int.reduceAdd, Int.reduceMul, Int.reduceSub, Int.reduceLT, Int.reduceLE, Int.reduceEq, Int.reduceNe, Nat.reduceLeDiff, Nat.reduceLT, Int.reduceNeg, Nat.reducePow, Nat.reduceMod, ByteArray.size]
  repeat (first | refine SWp.seq ?_ | refine SWp.block ?_ | refine SWp.condT rfl ?_ | refine SWp.condF rfl ?_ | refine LoopAt.next ?_ | refine And.intro (by omega) ?_ | ((first | refine SWp.reg ?_ | refine SWp.skip ?_ | refine SWp.exit ?_ | refine SWp.ret ?_ | refine (fun h => h : AOps _ _ _ _ → AOps _ _ _ _) ?_); simp (disch := omega) only [wX, wY, wR0, wR1, wR2, wR3, wR4, wR5, wR6, wR7, undef, Prod.mk.injEq, Option.some.injEq, eq_self, UInt8.reduceToNat, Nat.reduceOr, Nat.reduceAnd, Nat.reduceXor, Nat.reduceDiv, if_pos, if_neg, aStr, aBeq, aPick, aIsnil, aStrId, aB2s, aS2b, aBound, aSls, aSl, aSla, aFaddr, partA, aFld, aIaddr, aIaddrA, aIdxS, aIdxA, aLoad, aExt, aNilc, aLenS, aLen, splice, aBuild, shA, allSh, aBslice, aIsnilp, aStrz, aBsl, allShW, elemsA, flatOk, aApp, aMks, aStore, aBox, aCopy, frz, frz.frzL, live, chunks, flat, esz, u8, AV.free, AV.free.freeL, AV.flat, AV.flat.flatL, boo, int, str, ↓reduceIte, ne_eq, reduceCtorEq, Int.reduceToNat, Nat.reduceEqDiff, Nat.reduceAdd, Nat.reduceSub, Nat.reduceMul, Int.reduceAdd, Int.reduceMul, Int.reduceSub, Int.reduceLT, Int.reduceLE, Int.reduceEq, Int.reduceNe, Nat.reduceLeDiff, Nat.reduceLT, Int.reduceNeg, Nat.reducePow, Nat.reduceMod, ByteArray.size, hashRow, hnl, hp1, hend]))
end Go.Proofs.YtmgmlbbbjjnmpaaDoor.Aw
