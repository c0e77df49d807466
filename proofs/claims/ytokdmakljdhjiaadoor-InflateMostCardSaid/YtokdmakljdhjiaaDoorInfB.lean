/- Contracts: (*unpacker).length, distance. -/
import Derived.Test.YtokdmakljdhjiaaDoorInfA
namespace Go.Proofs.YtokdmakljdhjiaaDoor.Aw
open Go
set_option linter.unusedSimpArgs false
set_option linter.unusedVariables false

/-- A contract by what is read: the good answer with the objects behind it, or an error. -/
def Ans {α : Type} (P : Program) [Tabs P] (f : Nat) (ins : List AV) (hin : List AO) (r : BR α) (good : α → AV) (hout : α → Nat → List (Nat × Nat × AO)) (bad : Nat → AV) (k : Nat) : Prop :=
  match r with
  | .ok a j => HCon P f ins hin (good a) (hout a j) k
  | .no e => (e ≠ 0 ∧ e ≤ 10) ∧ HCon P f ins hin (bad e) [] k
def okI (v : Nat) : AV := .tup [int (v : Int), int 0]
def noI (e : Nat) : AV := .tup [int 0, int (e : Int)]

theorem inf_plus_a [Tabs Tryd.prog] (t : Bool) (most : Nat) (nl : Bool) (b : List UInt8) (hb : b.length ≤ 1000000) (i : Nat) (hi : i ≤ 8 * b.length) (out : List UInt8) (v n : Nat) (hn : n ≤ 24) (hv : v < 100000) :
    Ans Tryd.prog n_inflate_unpacker_plus [.op 1000 0 0, int (v : Int), int (n : Int)] (unI t most nl b i out) ((plusT v n).run (bitsL b) i) okI (fun _ j => unO 0 t most nl b j out) noI 40 := by
  rw [plusT, run_bnd, run_num hi]
  split
  · exact inf_plus_h t most nl b hb i hi out v n hn hv (by assumption)
  · exact ⟨by omega, inf_plus_no t most nl b hb i hi out v n (by assumption)⟩

set_option maxRecDepth 100000 in
theorem inf_length_a [Tabs Tryd.prog] (t : Bool) (most : Nat) (nl : Bool) (b : List UInt8) (hb : b.length ≤ 1000000) (i : Nat) (hi : i ≤ 8 * b.length) (out : List UInt8) (s : Nat) (hs : s < 1000) :
    Ans Tryd.prog n_inflate_unpacker_length [.op 1000 0 0, int (s : Int)] (unI t most nl b i out) ((lenT s).run (bitsL b) i) okI (fun _ j => unO 0 t most nl b j out) noI 50 := by
  by_cases c1 : 29 ≤ s
  · rw [show lenT s = .err 3 by rw [lenT, if_pos c1]]
    refine ⟨by omega, HCon.of' mix Tryd.func57 rfl Tryd.ntmps57 e_inflate_unpacker_length r_inflate_unpacker_length (by simp) (by simp [AV.gl, AV.gl.glL, int]) un_gl ?_⟩
    unfold s_inflate_unpacker_length
    have d1 : decide ((29 : Int) ≤ (s : Int)) = true := decide_eq_true (by omega)
    repeat (first | refine SWp.seq ?_ | refine SWp.block ?_ | refine SWp.condT rfl ?_ | refine SWp.condF rfl ?_ | refine LoopAt.next ?_ | refine And.intro (by omega) ?_ | ((first | refine SWp.reg ?_ | refine SWp.skip ?_ | refine SWp.exit ?_ | refine SWp.ret ?_ | refine (fun h => h : AOps _ _ _ _ → AOps _ _ _ _) ?_); simp (disch := omega) only [wP, wZ, undef, eq_self, UInt8.reduceToNat, Nat.reduceOr, Nat.reduceAnd, Nat.reduceXor, Nat.reduceDiv, if_pos, if_neg, aStore, frz, AV.flat, ↓reduceIte, ne_eq, reduceCtorEq, Int.reduceToNat, Nat.reduceEqDiff, Nat.reduceAdd, Nat.reduceSub, Nat.reduceMul, Int.reduceAdd, Int.reduceMul, Int.reduceSub, Int.reduceLT, Int.reduceLE, Int.reduceEq, Int.reduceNe, Nat.reduceLeDiff, Nat.reduceLT, Int.reduceNeg, Nat.reducePow, Nat.reduceMod, ByteArray.size, d1, noI]))
  have d1 : decide ((29 : Int) ≤ (s : Int)) = false := decide_eq_false (by omega)
  by_cases c2 : s = 28
  · subst c2
    rw [show lenT 28 = .ret 258 from rfl]
    refine HCon.of' mix Tryd.func57 rfl Tryd.ntmps57 e_inflate_unpacker_length r_inflate_unpacker_length (by simp) (by simp [AV.gl, AV.gl.glL, int]) un_gl ?_
    unfold s_inflate_unpacker_length
    repeat (first | refine SWp.seq ?_ | refine SWp.block ?_ | refine SWp.condT rfl ?_ | refine SWp.condF rfl ?_ | refine LoopAt.next ?_ | refine And.intro (by omega) ?_ | ((first | refine SWp.reg ?_ | refine SWp.skip ?_ | refine SWp.exit ?_ | refine SWp.ret ?_ | refine (fun h => h : AOps _ _ _ _ → AOps _ _ _ _) ?_); simp (disch := omega) only [wP, wZ, undef, eq_self, UInt8.reduceToNat, Nat.reduceOr, Nat.reduceAnd, Nat.reduceXor, Nat.reduceDiv, if_pos, if_neg, aStore, frz, AV.flat, ↓reduceIte, ne_eq, reduceCtorEq, Int.reduceToNat, Nat.reduceEqDiff, Nat.reduceAdd, Nat.reduceSub, Nat.reduceMul, Int.reduceAdd, Int.reduceMul, Int.reduceSub, Int.reduceLT, Int.reduceLE, Int.reduceEq, Int.reduceNe, Nat.reduceLeDiff, Nat.reduceLT, Int.reduceNeg, Nat.reducePow, Nat.reduceMod, ByteArray.size, d1, okI, unI, unR, unO]))
  have d2 : decide ((s : Int) = 28) = false := decide_eq_false (by omega)
  by_cases c3 : s < 8
  · rw [show lenT s = .ret (3 + s) by rw [lenT, if_neg c1, if_neg c2, if_pos c3]]
    refine HCon.of' mix Tryd.func57 rfl Tryd.ntmps57 e_inflate_unpacker_length r_inflate_unpacker_length (by simp) (by simp [AV.gl, AV.gl.glL, int]) un_gl ?_
    unfold s_inflate_unpacker_length
    have d3 : decide ((s : Int) < 8) = true := decide_eq_true (by omega)
    repeat (first | refine SWp.seq ?_ | refine SWp.block ?_ | refine SWp.condT rfl ?_ | refine SWp.condF rfl ?_ | refine LoopAt.next ?_ | refine And.intro (by omega) ?_ | ((first | refine SWp.reg ?_ | refine SWp.skip ?_ | refine SWp.exit ?_ | refine SWp.ret ?_ | refine (fun h => h : AOps _ _ _ _ → AOps _ _ _ _) ?_); simp (disch := omega) only [wP, wZ, undef, eq_self, UInt8.reduceToNat, Nat.reduceOr, Nat.reduceAnd, Nat.reduceXor, Nat.reduceDiv, if_pos, if_neg, aStore, frz, AV.flat, ↓reduceIte, ne_eq, reduceCtorEq, Int.reduceToNat, Nat.reduceEqDiff, Nat.reduceAdd, Nat.reduceSub, Nat.reduceMul, Int.reduceAdd, Int.reduceMul, Int.reduceSub, Int.reduceLT, Int.reduceLE, Int.reduceEq, Int.reduceNe, Nat.reduceLeDiff, Nat.reduceLT, Int.reduceNeg, Nat.reducePow, Nat.reduceMod, ByteArray.size, d1, d2, d3, okI, unI, unR, unO]))
  have d3 : decide ((s : Int) < 8) = false := decide_eq_false (by omega)
  rw [show lenT s = plusT (3 + (4 + s % 4) * 2 ^ (s / 4 - 1)) (s / 4 - 1) by rw [lenT, if_neg c1, if_neg c2, if_neg c3]]
  obtain ⟨k, hk⟩ : ∃ k, k = s / 4 - 1 := ⟨_, rfl⟩
  obtain ⟨m, hm⟩ : ∃ m, m = s % 4 := ⟨_, rfl⟩
  obtain ⟨q, hq⟩ : ∃ q, q = s / 4 := ⟨_, rfl⟩
  have e1 : (q : Int) - 1 = (k : Int) := by omega
  have hk6 : k ≤ 6 := by omega
  have hm4 : m < 4 := by omega
  have hp : 2 ^ k ≤ 64 := two_pow_le (n := k) (m := 6) hk6
  have hz2 : (4 + m) * 2 ^ k ≤ 7 * 64 := Nat.mul_le_mul (by omega) hp
  obtain ⟨p, hpd⟩ : ∃ p, p = 2 ^ k := ⟨_, rfl⟩
  obtain ⟨z, hz⟩ : ∃ z, z = (4 + m) * 2 ^ k := ⟨_, rfl⟩
  have e2 : ((4 : Int) + (m : Int)) * 2 ^ k = (z : Int) := by rw [hz, Int.natCast_mul, Int.natCast_add, Int.natCast_pow]; rfl
  rw [← hk, ← hm, ← hz]
  rw [← hz] at hz2
  have hA := inf_plus_a t most nl b hb i hi out (3 + z) k (by omega) (by omega)
  obtain ⟨r, hr⟩ : ∃ r, r = (plusT (3 + z) k).run (bitsL b) i := ⟨_, rfl⟩
  rw [← hr] at hA ⊢
  cases r with
  | ok a j =>
    refine HCon.of' mix Tryd.func57 rfl Tryd.ntmps57 e_inflate_unpacker_length r_inflate_unpacker_length (by simp) (by simp [AV.gl, AV.gl.glL, int]) un_gl ?_
    unfold s_inflate_unpacker_length
    repeat (first | refine SWp.seq ?_ | refine SWp.block ?_ | refine SWp.condT rfl ?_ | refine SWp.condF rfl ?_ | refine LoopAt.next ?_ | refine And.intro (by omega) ?_ | ((first | refine SWp.reg ?_ | refine SWp.skip ?_ | refine SWp.exit ?_ | refine SWp.ret ?_ | refine (fun h => h : AOps _ _ _ _ → AOps _ _ _ _) ?_); simp (disch := omega) only [wP, wZ, undef, eq_self, UInt8.reduceToNat, Nat.reduceOr, Nat.reduceAnd, Nat.reduceXor, Nat.reduceDiv, if_pos, if_neg, aStore, frz, AV.flat, ↓reduceIte, ne_eq, reduceCtorEq, Int.reduceToNat, Nat.reduceEqDiff, Nat.reduceAdd, Nat.reduceSub, Nat.reduceMul, Int.reduceAdd, Int.reduceMul, Int.reduceSub, Int.reduceLT, Int.reduceLE, Int.reduceEq, Int.reduceNe, Nat.reduceLeDiff, Nat.reduceLT, Int.reduceNeg, Nat.reducePow, Nat.reduceMod, ByteArray.size, d1, d2, d3, ← hq, ← hm, e1, e2]))
    refine goC_h [(1000, 0), (1001, 0), (1002, 0)] 2000 hA (by simp) (by simp) ?_ ?_ ?_
    iterate 2 (case _ => simp (disch := omega) only [wP, wZ, undef, eq_self, UInt8.reduceToNat, Nat.reduceOr, Nat.reduceAnd, Nat.reduceXor, Nat.reduceDiv, if_pos, if_neg, aStore, frz, AV.flat, ↓reduceIte, ne_eq, reduceCtorEq, Int.reduceToNat, Nat.reduceEqDiff, Nat.reduceAdd, Nat.reduceSub, Nat.reduceMul, Int.reduceAdd, Int.reduceMul, Int.reduceSub, Int.reduceLT, Int.reduceLE, Int.reduceEq, Int.reduceNe, Nat.reduceLeDiff, Nat.reduceLT, Int.reduceNeg, Nat.reducePow, Nat.reduceMod, ByteArray.size, unI, unR, rdR, ren_fxA])
    repeat (first | refine SWp.seq ?_ | refine SWp.block ?_ | refine SWp.condT rfl ?_ | refine SWp.condF rfl ?_ | refine LoopAt.next ?_ | refine And.intro (by omega) ?_ | ((first | refine SWp.reg ?_ | refine SWp.skip ?_ | refine SWp.exit ?_ | refine SWp.ret ?_ | refine (fun h => h : AOps _ _ _ _ → AOps _ _ _ _) ?_); simp (disch := omega) only [wP, wZ, undef, eq_self, UInt8.reduceToNat, Nat.reduceOr, Nat.reduceAnd, Nat.reduceXor, Nat.reduceDiv, if_pos, if_neg, aStore, frz, AV.flat, ↓reduceIte, ne_eq, reduceCtorEq, Int.reduceToNat, Nat.reduceEqDiff, Nat.reduceAdd, Nat.reduceSub, Nat.reduceMul, Int.reduceAdd, Int.reduceMul, Int.reduceSub, Int.reduceLT, Int.reduceLE, Int.reduceEq, Int.reduceNe, Nat.reduceLeDiff, Nat.reduceLT, Int.reduceNeg, Nat.reducePow, Nat.reduceMod, ByteArray.size, okI, unO, unR, rdR, ren_fxA]))
  | no e =>
    refine ⟨hA.1, HCon.of' mix Tryd.func57 rfl Tryd.ntmps57 e_inflate_unpacker_length r_inflate_unpacker_length (by simp) (by simp [AV.gl, AV.gl.glL, int]) un_gl ?_⟩
    unfold s_inflate_unpacker_length
    repeat (first | refine SWp.seq ?_ | refine SWp.block ?_ | refine SWp.condT rfl ?_ | refine SWp.condF rfl ?_ | refine LoopAt.next ?_ | refine And.intro (by omega) ?_ | ((first | refine SWp.reg ?_ | refine SWp.skip ?_ | refine SWp.exit ?_ | refine SWp.ret ?_ | refine (fun h => h : AOps _ _ _ _ → AOps _ _ _ _) ?_); simp (disch := omega) only [wP, wZ, undef, eq_self, UInt8.reduceToNat, Nat.reduceOr, Nat.reduceAnd, Nat.reduceXor, Nat.reduceDiv, if_pos, if_neg, aStore, frz, AV.flat, ↓reduceIte, ne_eq, reduceCtorEq, Int.reduceToNat, Nat.reduceEqDiff, Nat.reduceAdd, Nat.reduceSub, Nat.reduceMul, Int.reduceAdd, Int.reduceMul, Int.reduceSub, Int.reduceLT, Int.reduceLE, Int.reduceEq, Int.reduceNe, Nat.reduceLeDiff, Nat.reduceLT, Int.reduceNeg, Nat.reducePow, Nat.reduceMod, ByteArray.size, d1, d2, d3, ← hq, ← hm, e1, e2]))
    refine goC_h [(1000, 0), (1001, 0), (1002, 0)] 2000 hA.2 (by simp) (by simp) ?_ ?_ ?_
    iterate 2 (case _ => simp (disch := omega) only [wP, wZ, undef, eq_self, UInt8.reduceToNat, Nat.reduceOr, Nat.reduceAnd, Nat.reduceXor, Nat.reduceDiv, if_pos, if_neg, aStore, frz, AV.flat, ↓reduceIte, ne_eq, reduceCtorEq, Int.reduceToNat, Nat.reduceEqDiff, Nat.reduceAdd, Nat.reduceSub, Nat.reduceMul, Int.reduceAdd, Int.reduceMul, Int.reduceSub, Int.reduceLT, Int.reduceLE, Int.reduceEq, Int.reduceNe, Nat.reduceLeDiff, Nat.reduceLT, Int.reduceNeg, Nat.reducePow, Nat.reduceMod, ByteArray.size, unI, unR, rdR, ren_fxA])
    repeat (first | refine SWp.seq ?_ | refine SWp.block ?_ | refine SWp.condT rfl ?_ | refine SWp.condF rfl ?_ | refine LoopAt.next ?_ | refine And.intro (by omega) ?_ | ((first | refine SWp.reg ?_ | refine SWp.skip ?_ | refine SWp.exit ?_ | refine SWp.ret ?_ | refine (fun h => h : AOps _ _ _ _ → AOps _ _ _ _) ?_); simp (disch := omega) only [wP, wZ, undef, eq_self, UInt8.reduceToNat, Nat.reduceOr, Nat.reduceAnd, Nat.reduceXor, Nat.reduceDiv, if_pos, if_neg, aStore, frz, AV.flat, ↓reduceIte, ne_eq, reduceCtorEq, Int.reduceToNat, Nat.reduceEqDiff, Nat.reduceAdd, Nat.reduceSub, Nat.reduceMul, Int.reduceAdd, Int.reduceMul, Int.reduceSub, Int.reduceLT, Int.reduceLE, Int.reduceEq, Int.reduceNe, Nat.reduceLeDiff, Nat.reduceLT, Int.reduceNeg, Nat.reducePow, Nat.reduceMod, ByteArray.size, noI, unO, unR, rdR, ren_fxA]))

set_option maxRecDepth 100000 in
theorem inf_distance_a [Tabs Tryd.prog] (t : Bool) (most : Nat) (nl : Bool) (b : List UInt8) (hb : b.length ≤ 1000000) (i : Nat) (hi : i ≤ 8 * b.length) (out : List UInt8) (s : Nat) (hs : s < 1000) :
    Ans Tryd.prog n_inflate_unpacker_distance [.op 1000 0 0, int (s : Int)] (unI t most nl b i out) ((disT s).run (bitsL b) i) okI (fun _ j => unO 0 t most nl b j out) noI 50 := by
  by_cases c1 : 30 ≤ s
  · rw [show disT s = .err 3 by rw [disT, if_pos c1]]
    refine ⟨by omega, HCon.of' mix Tryd.func58 rfl Tryd.ntmps58 e_inflate_unpacker_distance r_inflate_unpacker_distance (by simp) (by simp [AV.gl, AV.gl.glL, int]) un_gl ?_⟩
    unfold s_inflate_unpacker_distance
    have d1 : decide ((30 : Int) ≤ (s : Int)) = true := decide_eq_true (by omega)
    repeat (first | refine SWp.seq ?_ | refine SWp.block ?_ | refine SWp.condT rfl ?_ | refine SWp.condF rfl ?_ | refine LoopAt.next ?_ | refine And.intro (by omega) ?_ | ((first | refine SWp.reg ?_ | refine SWp.skip ?_ | refine SWp.exit ?_ | refine SWp.ret ?_ | refine (fun h => h : AOps _ _ _ _ → AOps _ _ _ _) ?_); simp (disch := omega) only [wP, wZ, undef, eq_self, UInt8.reduceToNat, Nat.reduceOr, Nat.reduceAnd, Nat.reduceXor, Nat.reduceDiv, if_pos, if_neg, aStore, frz, AV.flat, ↓reduceIte, ne_eq, reduceCtorEq, Int.reduceToNat, Nat.reduceEqDiff, Nat.reduceAdd, Nat.reduceSub, Nat.reduceMul, Int.reduceAdd, Int.reduceMul, Int.reduceSub, Int.reduceLT, Int.reduceLE, Int.reduceEq, Int.reduceNe, Nat.reduceLeDiff, Nat.reduceLT, Int.reduceNeg, Nat.reducePow, Nat.reduceMod, ByteArray.size, d1, noI]))
  have d1 : decide ((30 : Int) ≤ (s : Int)) = false := decide_eq_false (by omega)
  by_cases c3 : s < 4
  · rw [show disT s = .ret (1 + s) by rw [disT, if_neg c1, if_pos c3]]
    refine HCon.of' mix Tryd.func58 rfl Tryd.ntmps58 e_inflate_unpacker_distance r_inflate_unpacker_distance (by simp) (by simp [AV.gl, AV.gl.glL, int]) un_gl ?_
    unfold s_inflate_unpacker_distance
    have d3 : decide ((s : Int) < 4) = true := decide_eq_true (by omega)
    repeat (first | refine SWp.seq ?_ | refine SWp.block ?_ | refine SWp.condT rfl ?_ | refine SWp.condF rfl ?_ | refine LoopAt.next ?_ | refine And.intro (by omega) ?_ | ((first | refine SWp.reg ?_ | refine SWp.skip ?_ | refine SWp.exit ?_ | refine SWp.ret ?_ | refine (fun h => h : AOps _ _ _ _ → AOps _ _ _ _) ?_); simp (disch := omega) only [wP, wZ, undef, eq_self, UInt8.reduceToNat, Nat.reduceOr, Nat.reduceAnd, Nat.reduceXor, Nat.reduceDiv, if_pos, if_neg, aStore, frz, AV.flat, ↓reduceIte, ne_eq, reduceCtorEq, Int.reduceToNat, Nat.reduceEqDiff, Nat.reduceAdd, Nat.reduceSub, Nat.reduceMul, Int.reduceAdd, Int.reduceMul, Int.reduceSub, Int.reduceLT, Int.reduceLE, Int.reduceEq, Int.reduceNe, Nat.reduceLeDiff, Nat.reduceLT, Int.reduceNeg, Nat.reducePow, Nat.reduceMod, ByteArray.size, d1, d3, okI, unI, unR, unO]))
  have d3 : decide ((s : Int) < 4) = false := decide_eq_false (by omega)
  rw [show disT s = plusT (1 + (2 + s % 2) * 2 ^ (s / 2 - 1)) (s / 2 - 1) by rw [disT, if_neg c1, if_neg c3]]
  obtain ⟨k, hk⟩ : ∃ k, k = s / 2 - 1 := ⟨_, rfl⟩
  obtain ⟨m, hm⟩ : ∃ m, m = s % 2 := ⟨_, rfl⟩
  obtain ⟨q, hq⟩ : ∃ q, q = s / 2 := ⟨_, rfl⟩
  have e1 : (q : Int) - 1 = (k : Int) := by omega
  have hk6 : k ≤ 13 := by omega
  have hm4 : m < 2 := by omega
  have hp : 2 ^ k ≤ 8192 := two_pow_le (n := k) (m := 13) hk6
  have hz2 : (2 + m) * 2 ^ k ≤ 3 * 8192 := Nat.mul_le_mul (by omega) hp
  obtain ⟨p, hpd⟩ : ∃ p, p = 2 ^ k := ⟨_, rfl⟩
  obtain ⟨z, hz⟩ : ∃ z, z = (2 + m) * 2 ^ k := ⟨_, rfl⟩
  have e2 : ((2 : Int) + (m : Int)) * 2 ^ k = (z : Int) := by rw [hz, Int.natCast_mul, Int.natCast_add, Int.natCast_pow]; rfl
  rw [← hk, ← hm, ← hz]
  rw [← hz] at hz2
  have hA := inf_plus_a t most nl b hb i hi out (1 + z) k (by omega) (by omega)
  obtain ⟨r, hr⟩ : ∃ r, r = (plusT (1 + z) k).run (bitsL b) i := ⟨_, rfl⟩
  rw [← hr] at hA ⊢
  cases r with
  | ok a j =>
    refine HCon.of' mix Tryd.func58 rfl Tryd.ntmps58 e_inflate_unpacker_distance r_inflate_unpacker_distance (by simp) (by simp [AV.gl, AV.gl.glL, int]) un_gl ?_
    unfold s_inflate_unpacker_distance
    repeat (first | refine SWp.seq ?_ | refine SWp.block ?_ | refine SWp.condT rfl ?_ | refine SWp.condF rfl ?_ | refine LoopAt.next ?_ | refine And.intro (by omega) ?_ | ((first | refine SWp.reg ?_ | refine SWp.skip ?_ | refine SWp.exit ?_ | refine SWp.ret ?_ | refine (fun h => h : AOps _ _ _ _ → AOps _ _ _ _) ?_); simp (disch := omega) only [wP, wZ, undef, eq_self, UInt8.reduceToNat, Nat.reduceOr, Nat.reduceAnd, Nat.reduceXor, Nat.reduceDiv, if_pos, if_neg, aStore, frz, AV.flat, ↓reduceIte, ne_eq, reduceCtorEq, Int.reduceToNat, Nat.reduceEqDiff, Nat.reduceAdd, Nat.reduceSub, Nat.reduceMul, Int.reduceAdd, Int.reduceMul, Int.reduceSub, Int.reduceLT, Int.reduceLE, Int.reduceEq, Int.reduceNe, Nat.reduceLeDiff, Nat.reduceLT, Int.reduceNeg, Nat.reducePow, Nat.reduceMod, ByteArray.size, d1, d3, ← hq, ← hm, e1, e2]))
    refine goC_h [(1000, 0), (1001, 0), (1002, 0)] 2000 hA (by simp) (by simp) ?_ ?_ ?_
    iterate 2 (case _ => simp (disch := omega) only [wP, wZ, undef, eq_self, UInt8.reduceToNat, Nat.reduceOr, Nat.reduceAnd, Nat.reduceXor, Nat.reduceDiv, if_pos, if_neg, aStore, frz, AV.flat, ↓reduceIte, ne_eq, reduceCtorEq, Int.reduceToNat, Nat.reduceEqDiff, Nat.reduceAdd, Nat.reduceSub, Nat.reduceMul, Int.reduceAdd, Int.reduceMul, Int.reduceSub, Int.reduceLT, Int.reduceLE, Int.reduceEq, Int.reduceNe, Nat.reduceLeDiff, Nat.reduceLT, Int.reduceNeg, Nat.reducePow, Nat.reduceMod, ByteArray.size, unI, unR, rdR, ren_fxA])
    repeat (first | refine SWp.seq ?_ | refine SWp.block ?_ | refine SWp.condT rfl ?_ | refine SWp.condF rfl ?_ | refine LoopAt.next ?_ | refine And.intro (by omega) ?_ | ((first | refine SWp.reg ?_ | refine SWp.skip ?_ | refine SWp.exit ?_ | refine SWp.ret ?_ | refine (fun h => h : AOps _ _ _ _ → AOps _ _ _ _) ?_); simp (disch := omega) only [wP, wZ, undef, eq_self, UInt8.reduceToNat, Nat.reduceOr, Nat.reduceAnd, Nat.reduceXor, Nat.reduceDiv, if_pos, if_neg, aStore, frz, AV.flat, ↓reduceIte, ne_eq, reduceCtorEq, Int.reduceToNat, Nat.reduceEqDiff, Nat.reduceAdd, Nat.reduceSub, Nat.reduceMul, Int.reduceAdd, Int.reduceMul, Int.reduceSub, Int.reduceLT, Int.reduceLE, Int.reduceEq, Int.reduceNe, Nat.reduceLeDiff, Nat.reduceLT, Int.reduceNeg, Nat.reducePow, Nat.reduceMod, ByteArray.size, okI, unO, unR, rdR, ren_fxA]))
  | no e =>
    refine ⟨hA.1, HCon.of' mix Tryd.func58 rfl Tryd.ntmps58 e_inflate_unpacker_distance r_inflate_unpacker_distance (by simp) (by simp [AV.gl, AV.gl.glL, int]) un_gl ?_⟩
    unfold s_inflate_unpacker_distance
    repeat (first | refine SWp.seq ?_ | refine SWp.block ?_ | refine SWp.condT rfl ?_ | refine SWp.condF rfl ?_ | refine LoopAt.next ?_ | refine And.intro (by omega) ?_ | ((first | refine SWp.reg ?_ | refine SWp.skip ?_ | refine SWp.exit ?_ | refine SWp.ret ?_ | refine (fun h => h : AOps _ _ _ _ → AOps _ _ _ _) ?_); simp (disch := omega) only [wP, wZ, undef, eq_self, UInt8.reduceToNat, Nat.reduceOr, Nat.reduceAnd, Nat.reduceXor, Nat.reduceDiv, if_pos, if_neg, aStore, frz, AV.flat, ↓reduceIte, ne_eq, reduceCtorEq, Int.reduceToNat, Nat.reduceEqDiff, Nat.reduceAdd, Nat.reduceSub, Nat.reduceMul, Int.reduceAdd, Int.reduceMul, Int.reduceSub, Int.reduceLT, Int.reduceLE, Int.reduceEq, Int.reduceNe, Nat.reduceLeDiff, Nat.reduceLT, Int.reduceNeg, Nat.reducePow, Nat.reduceMod, ByteArray.size, d1, d3, ← hq, ← hm, e1, e2]))
    refine goC_h [(1000, 0), (1001, 0), (1002, 0)] 2000 hA.2 (by simp) (by simp) ?_ ?_ ?_
    iterate 2 (case _ => simp (disch := omega) only [wP, wZ, undef, eq_self, UInt8.reduceToNat, Nat.reduceOr, Nat.reduceAnd, Nat.reduceXor, Nat.reduceDiv, if_pos, if_neg, aStore, frz, AV.flat, ↓reduceIte, ne_eq, reduceCtorEq, Int.reduceToNat, Nat.reduceEqDiff, Nat.reduceAdd, Nat.reduceSub, Nat.reduceMul, Int.reduceAdd, Int.reduceMul, Int.reduceSub, Int.reduceLT, Int.reduceLE, Int.reduceEq, Int.reduceNe, Nat.reduceLeDiff, Nat.reduceLT, Int.reduceNeg, Nat.reducePow, Nat.reduceMod, ByteArray.size, unI, unR, rdR, ren_fxA])
    repeat (first | refine SWp.seq ?_ | refine SWp.block ?_ | refine SWp.condT rfl ?_ | refine SWp.condF rfl ?_ | refine LoopAt.next ?_ | refine And.intro (by omega) ?_ | ((first | refine SWp.reg ?_ | refine SWp.skip ?_ | refine SWp.exit ?_ | refine SWp.ret ?_ | refine (fun h => h : AOps _ _ _ _ → AOps _ _ _ _) ?_); simp (disch := omega) only [wP, wZ, undef, eq_self, UInt8.reduceToNat, Nat.reduceOr, Nat.reduceAnd, Nat.reduceXor, Nat.reduceDiv, if_pos, if_neg, aStore, frz, AV.flat, ↓reduceIte, ne_eq, reduceCtorEq, Int.reduceToNat, Nat.reduceEqDiff, Nat.reduceAdd, Nat.reduceSub, Nat.reduceMul, Int.reduceAdd, Int.reduceMul, Int.reduceSub, Int.reduceLT, Int.reduceLE, Int.reduceEq, Int.reduceNe, Nat.reduceLeDiff, Nat.reduceLT, Int.reduceNeg, Nat.reducePow, Nat.reduceMod, ByteArray.size, noI, unO, unR, rdR, ren_fxA]))
end Go.Proofs.YtokdmakljdhjiaaDoor.Aw
