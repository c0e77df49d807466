/- Contracts: drayageref01.Bit, drayageref01.Base64. -/
import Derived.Test.YtdkghcfbhpemfaaDoorB64B
namespace Go.Proofs.YtdkghcfbhpemfaaDoor.Aw
open Go
set_option linter.unusedSimpArgs false
set_option linter.unusedVariables false

/-- A bit of bytes, the highest one of the first byte first; 0 behind them. -/
def bitN (b : List UInt8) (i : Nat) : Nat := if b.length ≤ i / 8 then 0 else (b.getD (i / 8) 0).toNat / 2 ^ (7 - i % 8) % 2
def sixK (b : List UInt8) (i : Nat) : Nat → Nat
  | 0 => 0
  | k + 1 => 2 * sixK b i k + bitN b (i + k)
theorem bitN_lt (b : List UInt8) (i : Nat) : bitN b i < 2 := by
  unfold bitN
  split
  · omega
  · exact Nat.mod_lt _ (by omega)
theorem sixK_lt (b : List UInt8) (i k : Nat) : sixK b i k < 2 ^ k := by
  induction k with
  | zero => simp [sixK]
  | succ k ih =>
    have := bitN_lt b (i + k)
    simp only [sixK, Nat.pow_succ]; omega
theorem sixK_64 (b : List UInt8) (i k : Nat) (h : k ≤ 6) : sixK b i k < 64 := by
  have h1 := sixK_lt b i k
  have h2 : 2 ^ k ≤ 2 ^ 6 := Nat.pow_le_pow_right (by omega) h
  omega
def outR (b : List UInt8) : Nat → List UInt8
  | 0 => []
  | r + 1 => outR b r ++ [sg (sixK b (6 * r) 6)]
theorem length_outR (b : List UInt8) (r : Nat) : (outR b r).length = r := by
  induction r with
  | zero => rfl
  | succ r ih => simp [outR, ih]
def padN (r : Nat) : Nat := (4 - r % 4) % 4
def refB64 (b : List UInt8) : List UInt8 := outR b ((8 * b.length + 5) / 6) ++ List.replicate (padN ((8 * b.length + 5) / 6)) 61

theorem bit_front (x y z : UInt8) (r : List UInt8) (i : Nat) : bitN (x :: y :: z :: r) (i + 24) = bitN r i := by
  unfold bitN
  have e1 : (i + 24) / 8 = i / 8 + 3 := by omega
  have e2 : (i + 24) % 8 = i % 8 := by omega
  rw [e1, e2]
  by_cases h : r.length ≤ i / 8
  · rw [if_pos h, if_pos (by simp only [List.length_cons]; omega)]
  · rw [if_neg h, if_neg (by simp only [List.length_cons]; omega)]
    rfl
theorem six_front (x y z : UInt8) (r : List UInt8) (i k : Nat) : sixK (x :: y :: z :: r) (i + 24) k = sixK r i k := by
  induction k with
  | zero => rfl
  | succ k ih => simp only [sixK, ih]; rw [show i + 24 + k = i + k + 24 by omega, bit_front]
theorem bit0 (x : UInt8) (r : List UInt8) (j : Nat) (h : j < 8) : bitN (x :: r) j = x.toNat / 2 ^ (7 - j) % 2 := by
  unfold bitN
  rw [if_neg (by simp only [List.length_cons]; omega), show j / 8 = 0 by omega, show j % 8 = j by omega]; rfl
theorem bit1 (x y : UInt8) (r : List UInt8) (j : Nat) (h : j < 8) : bitN (x :: y :: r) (8 + j) = y.toNat / 2 ^ (7 - j) % 2 := by
  unfold bitN
  rw [if_neg (by simp only [List.length_cons]; omega), show (8 + j) / 8 = 1 by omega, show (8 + j) % 8 = j by omega]; rfl
theorem bit2 (x y z : UInt8) (r : List UInt8) (j : Nat) (h : j < 8) : bitN (x :: y :: z :: r) (16 + j) = z.toNat / 2 ^ (7 - j) % 2 := by
  unfold bitN
  rw [if_neg (by simp only [List.length_cons]; omega), show (16 + j) / 8 = 2 by omega, show (16 + j) % 8 = j by omega]; rfl
theorem bit_out (b : List UInt8) (i : Nat) (h : b.length ≤ i / 8) : bitN b i = 0 := if_pos h

theorem hi6 (n : Nat) (h : n < 256) : 2 * (2 * (2 * (2 * (2 * (2 * 0 + n / 128 % 2) + n / 64 % 2) + n / 32 % 2) + n / 16 % 2) + n / 8 % 2) + n / 4 % 2 = n / 4 := by
  have : ∀ n : Fin 256, 2 * (2 * (2 * (2 * (2 * (2 * 0 + n.1 / 128 % 2) + n.1 / 64 % 2) + n.1 / 32 % 2) + n.1 / 16 % 2) + n.1 / 8 % 2) + n.1 / 4 % 2 = n.1 / 4 := by decide +kernel
  exact this ⟨n, h⟩
theorem lo6 (n : Nat) (h : n < 256) : 2 * (2 * (2 * (2 * (2 * (2 * 0 + n / 32 % 2) + n / 16 % 2) + n / 8 % 2) + n / 4 % 2) + n / 2 % 2) + n % 2 = n % 64 := by
  have : ∀ n : Fin 256, 2 * (2 * (2 * (2 * (2 * (2 * 0 + n.1 / 32 % 2) + n.1 / 16 % 2) + n.1 / 8 % 2) + n.1 / 4 % 2) + n.1 / 2 % 2) + n.1 % 2 = n.1 % 64 := by decide +kernel
  exact this ⟨n, h⟩
theorem hi4 (n : Nat) (h : n < 256) : 8 * (n / 128 % 2) + 4 * (n / 64 % 2) + 2 * (n / 32 % 2) + n / 16 % 2 = n / 16 := by
  have : ∀ n : Fin 256, 8 * (n.1 / 128 % 2) + 4 * (n.1 / 64 % 2) + 2 * (n.1 / 32 % 2) + n.1 / 16 % 2 = n.1 / 16 := by decide +kernel
  exact this ⟨n, h⟩
theorem lo4 (n : Nat) (h : n < 256) : 8 * (n / 8 % 2) + 4 * (n / 4 % 2) + 2 * (n / 2 % 2) + n % 2 = n % 16 := by
  have : ∀ n : Fin 256, 8 * (n.1 / 8 % 2) + 4 * (n.1 / 4 % 2) + 2 * (n.1 / 2 % 2) + n.1 % 2 = n.1 % 16 := by decide +kernel
  exact this ⟨n, h⟩
theorem mid2 (x y : Nat) (hy : y < 256) : 2 * (2 * (2 * (2 * (2 * (2 * 0 + x / 2 % 2) + x % 2) + y / 128 % 2) + y / 64 % 2) + y / 32 % 2) + y / 16 % 2 = x % 4 * 16 + y / 16 := by
  have h1 : 2 * (x / 2 % 2) + x % 2 = x % 4 := by omega
  have h2 := hi4 y hy
  generalize x / 2 % 2 = p, x % 2 = q, y / 128 % 2 = a, y / 64 % 2 = b, y / 32 % 2 = c, y / 16 % 2 = d at h1 h2 ⊢
  omega
theorem mid4 (y z : Nat) (hy : y < 256) (hz : z < 256) : 2 * (2 * (2 * (2 * (2 * (2 * 0 + y / 8 % 2) + y / 4 % 2) + y / 2 % 2) + y % 2) + z / 128 % 2) + z / 64 % 2 = y % 16 * 4 + z / 64 := by
  have h1 : 2 * (z / 128 % 2) + z / 64 % 2 = z / 64 := by omega
  have h2 := lo4 y hy
  generalize z / 128 % 2 = p, z / 64 % 2 = q, y / 8 % 2 = a, y / 4 % 2 = b, y / 2 % 2 = c, y % 2 = d at h1 h2 ⊢
  omega
theorem t0 (x y z : Nat) (hx : x < 256) (hy : y < 256) (hz : z < 256) : (x * 65536 + y * 256 + z) / 262144 % 64 = x / 4 := by omega
theorem t1 (x y z : Nat) (hx : x < 256) (hy : y < 256) (hz : z < 256) : (x * 65536 + y * 256 + z) / 4096 % 64 = x % 4 * 16 + y / 16 := by omega
theorem t2 (x y z : Nat) (hx : x < 256) (hy : y < 256) (hz : z < 256) : (x * 65536 + y * 256 + z) / 64 % 64 = y % 16 * 4 + z / 64 := by omega
theorem t3 (x y z : Nat) (hx : x < 256) (hy : y < 256) (hz : z < 256) : (x * 65536 + y * 256 + z) % 64 = z % 64 := by omega
theorem six3 (x y z : UInt8) (r : List UInt8) : outR (x :: y :: z :: r) 4 = four [x, y, z] := by
  have hx := x.toNat_lt
  have hy := y.toNat_lt
  have hz := z.toNat_lt
  have a : ∀ j, j < 8 → bitN (x :: y :: z :: r) j = x.toNat / 2 ^ (7 - j) % 2 := fun j h => bit0 _ _ j h
  have b : ∀ j, j < 8 → bitN (x :: y :: z :: r) (8 + j) = y.toNat / 2 ^ (7 - j) % 2 := fun j h => bit1 _ _ _ j h
  have c : ∀ j, j < 8 → bitN (x :: y :: z :: r) (16 + j) = z.toNat / 2 ^ (7 - j) % 2 := fun j h => bit2 _ _ _ _ j h
  have a0 := a 0 (by omega); have a1 := a 1 (by omega); have a2 := a 2 (by omega); have a3 := a 3 (by omega); have a4 := a 4 (by omega); have a5 := a 5 (by omega); have a6 := a 6 (by omega); have a7 := a 7 (by omega)
  have b0 := b 0 (by omega); have b1 := b 1 (by omega); have b2 := b 2 (by omega); have b3 := b 3 (by omega); have b4 := b 4 (by omega); have b5 := b 5 (by omega); have b6 := b 6 (by omega); have b7 := b 7 (by omega)
  have c0 := c 0 (by omega); have c1 := c 1 (by omega); have c2 := c 2 (by omega); have c3 := c 3 (by omega); have c4 := c 4 (by omega); have c5 := c 5 (by omega); have c6 := c 6 (by omega); have c7 := c 7 (by omega)
  simp only [Nat.reduceAdd, Nat.reduceSub, Nat.reducePow, Nat.add_zero, Nat.div_one] at a0 a1 a2 a3 a4 a5 a6 a7 b0 b1 b2 b3 b4 b5 b6 b7 c0 c1 c2 c3 c4 c5 c6 c7
  have s0 : sixK (x :: y :: z :: r) 0 6 = (x.toNat * 65536 + y.toNat * 256 + z.toNat) / 262144 % 64 := by
    simp only [sixK, Nat.zero_add, Nat.reduceAdd, a0, a1, a2, a3, a4, a5]; rw [hi6 _ hx, t0 _ _ _ hx hy hz]
  have s1 : sixK (x :: y :: z :: r) 6 6 = (x.toNat * 65536 + y.toNat * 256 + z.toNat) / 4096 % 64 := by
    simp only [sixK, Nat.add_zero, Nat.reduceAdd, a6, a7, b0, b1, b2, b3]; rw [mid2 _ _ hy, t1 _ _ _ hx hy hz]
  have s2 : sixK (x :: y :: z :: r) 12 6 = (x.toNat * 65536 + y.toNat * 256 + z.toNat) / 64 % 64 := by
    simp only [sixK, Nat.add_zero, Nat.reduceAdd, b4, b5, b6, b7, c0, c1]; rw [mid4 _ _ hy hz, t2 _ _ _ hx hy hz]
  have s3 : sixK (x :: y :: z :: r) 18 6 = (x.toNat * 65536 + y.toNat * 256 + z.toNat) % 64 := by
    simp only [sixK, Nat.add_zero, Nat.reduceAdd, c2, c3, c4, c5, c6, c7]; rw [lo6 _ hz, t3 _ _ _ hx hy hz]
  simp only [outR, Nat.mul_zero, Nat.mul_one, Nat.reduceMul, s0, s1, s2, s3, four]
  rfl
theorem outR_front (x y z : UInt8) (r : List UInt8) (k : Nat) : outR (x :: y :: z :: r) (k + 4) = four [x, y, z] ++ outR r k := by
  induction k with
  | zero => rw [Nat.zero_add, six3]; simp [outR]
  | succ k ih =>
    rw [show k + 1 + 4 = k + 4 + 1 by omega, outR, ih, outR, show 6 * (k + 4) = 6 * k + 24 by omega, six_front, List.append_assoc]
theorem six2 (x y : UInt8) : outR [x, y] 3 ++ [61] = four [x, y] := by
  have hx := x.toNat_lt
  have hy := y.toNat_lt
  have a : ∀ j, j < 8 → bitN [x, y] j = x.toNat / 2 ^ (7 - j) % 2 := fun j h => bit0 _ _ j h
  have b : ∀ j, j < 8 → bitN [x, y] (8 + j) = y.toNat / 2 ^ (7 - j) % 2 := fun j h => bit1 _ _ _ j h
  have c0 : bitN [x, y] 16 = 0 := bit_out _ _ (by simp)
  have c1 : bitN [x, y] 17 = 0 := bit_out _ _ (by simp)
  have a0 := a 0 (by omega); have a1 := a 1 (by omega); have a2 := a 2 (by omega); have a3 := a 3 (by omega); have a4 := a 4 (by omega); have a5 := a 5 (by omega); have a6 := a 6 (by omega); have a7 := a 7 (by omega)
  have b0 := b 0 (by omega); have b1 := b 1 (by omega); have b2 := b 2 (by omega); have b3 := b 3 (by omega); have b4 := b 4 (by omega); have b5 := b 5 (by omega); have b6 := b 6 (by omega); have b7 := b 7 (by omega)
  simp only [Nat.reduceAdd, Nat.reduceSub, Nat.reducePow, Nat.add_zero, Nat.div_one] at a0 a1 a2 a3 a4 a5 a6 a7 b0 b1 b2 b3 b4 b5 b6 b7
  have s0 : sixK [x, y] 0 6 = (x.toNat * 65536 + y.toNat * 256) / 262144 % 64 := by
    simp only [sixK, Nat.zero_add, Nat.reduceAdd, a0, a1, a2, a3, a4, a5]; have t := t0 x.toNat y.toNat 0 hx hy (by omega)
    rw [Nat.add_zero] at t
    rw [hi6 _ hx, t]
  have s1 : sixK [x, y] 6 6 = (x.toNat * 65536 + y.toNat * 256) / 4096 % 64 := by
    simp only [sixK, Nat.add_zero, Nat.reduceAdd, a6, a7, b0, b1, b2, b3]; have t := t1 x.toNat y.toNat 0 hx hy (by omega)
    rw [Nat.add_zero] at t
    rw [mid2 _ _ hy, t]
  have s2 : sixK [x, y] 12 6 = (x.toNat * 65536 + y.toNat * 256) / 64 % 64 := by
    simp only [sixK, Nat.add_zero, Nat.reduceAdd, b4, b5, b6, b7, c0, c1]
    have h2 := mid4 y.toNat 0 hy (by omega)
    have t := t2 x.toNat y.toNat 0 hx hy (by omega)
    rw [Nat.add_zero] at t
    rw [t]
    simp only [Nat.zero_div, Nat.zero_mod, Nat.add_zero] at h2 ⊢
    exact h2
  simp only [outR, Nat.mul_zero, Nat.mul_one, Nat.reduceMul, s0, s1, s2, four]
  rfl
theorem six1 (x : UInt8) : outR [x] 2 ++ [61, 61] = four [x] := by
  have hx := x.toNat_lt
  have a : ∀ j, j < 8 → bitN [x] j = x.toNat / 2 ^ (7 - j) % 2 := fun j h => bit0 _ _ j h
  have b0 : bitN [x] 8 = 0 := bit_out _ _ (by simp)
  have b1 : bitN [x] 9 = 0 := bit_out _ _ (by simp)
  have b2 : bitN [x] 10 = 0 := bit_out _ _ (by simp)
  have b3 : bitN [x] 11 = 0 := bit_out _ _ (by simp)
  have a0 := a 0 (by omega); have a1 := a 1 (by omega); have a2 := a 2 (by omega); have a3 := a 3 (by omega); have a4 := a 4 (by omega); have a5 := a 5 (by omega); have a6 := a 6 (by omega); have a7 := a 7 (by omega)
  simp only [Nat.reduceAdd, Nat.reduceSub, Nat.reducePow, Nat.add_zero, Nat.div_one] at a0 a1 a2 a3 a4 a5 a6 a7
  have s0 : sixK [x] 0 6 = (x.toNat * 65536) / 262144 % 64 := by
    simp only [sixK, Nat.zero_add, Nat.reduceAdd, a0, a1, a2, a3, a4, a5]; have t := t0 x.toNat 0 0 hx (by omega) (by omega)
    simp only [Nat.zero_mul, Nat.add_zero] at t
    rw [hi6 _ hx, t]
  have s1 : sixK [x] 6 6 = (x.toNat * 65536) / 4096 % 64 := by
    simp only [sixK, Nat.add_zero, Nat.reduceAdd, a6, a7, b0, b1, b2, b3]; omega
  simp only [outR, Nat.mul_zero, Nat.mul_one, s0, s1, four]
  rfl
theorem refB64_eq : ∀ (n : Nat) (b : List UInt8), (b.length + 2) / 3 = n → refB64 b = b64 b
  | 0, b, h => by
    have : b = [] := List.eq_nil_of_length_eq_zero (by omega)
    subst this; rfl
  | n + 1, [], h => by simp at h
  | n + 1, [x], h => by
    have e : b64 [x] = four [x] := by simp [b64, b64K]
    rw [e, ← six1]; simp [refB64, padN, List.replicate]
  | n + 1, [x, y], h => by
    have e : b64 [x, y] = four [x, y] := by simp [b64, b64K]
    rw [e, ← six2]; simp [refB64, padN, List.replicate]
  | n + 1, x :: y :: z :: r, h => by
    have ih := refB64_eq n r (by simp only [List.length_cons] at h; omega)
    rw [b64_cons, ← ih]
    unfold refB64
    have e : (8 * (x :: y :: z :: r).length + 5) / 6 = (8 * r.length + 5) / 6 + 4 := by simp only [List.length_cons]; omega
    have e2 : padN ((8 * r.length + 5) / 6 + 4) = padN ((8 * r.length + 5) / 6) := by unfold padN; omega
    rw [e, e2, outR_front, List.append_assoc]

set_option maxRecDepth 100000 in
theorem ref_Bit_c [Tabs Tryd.prog] (nl : Bool) (b : List UInt8) (hb : b.length ≤ 1000000) (i : Nat) (hi : i ≤ 100000000) : Con Tryd.prog n_drayageref01_Bit [.sl nl none (b.map u8), int i] (int (bitN b i)) := by
  refine Con.of' mix Tryd.func39 rfl Tryd.ntmps39 e_drayageref01_Bit r_drayageref01_Bit (by simp) (by simp only [AV.free, AV.free.freeL, free_u8, int, Bool.and_self]) rfl ?_
  unfold s_drayageref01_Bit
  by_cases c1 : (b.length : Int) ≤ ((i / 8 : Nat) : Int)
  · have d1 := decide_eq_true c1
    have hu := bit_out b i (by omega)
    repeat (first | refine SWp.seq ?_ | refine SWp.block ?_ | refine SWp.condT rfl ?_ | refine SWp.condF rfl ?_ | refine LoopAt.next ?_ | refine And.intro (by omega) ?_ | ((first | refine SWp.reg ?_ | refine SWp.skip ?_ | refine SWp.exit ?_ | refine SWp.ret ?_ | refine (fun h => h : AOps _ _ _ _ → AOps _ _ _ _) ?_); simp (disch := omega) only [wR0, wR1, wR2, wR3, wR4, wR5, wR6, wR7, undef, Prod.mk.injEq, Option.some.injEq, eq_self, UInt8.reduceToNat, Nat.reduceOr, Nat.reduceAnd, Nat.reduceXor, Nat.reduceDiv, if_pos, if_neg, aBin, aStr, aUn, aBeq, aPick, aCi, aIsnil, aStrId, aB2s, aS2b, aBound, aSls, aSl, aSla, aFaddr, partA, aFld, aIaddr, aIaddrA, aIdxS, aIdxA, aLoad, aExt, aNilc, aLenS, aLen, splice, aBuild, shA, allSh, aBslice, aBsl, allShW, elemsA, flatOk, aApp, aMks, aStore, aBox, aCopy, frz, frz.frzL, live, chunks, flat, esz, u8, AV.free, AV.free.freeL, AV.flat, AV.flat.flatL, boo, int, str, ↓reduceIte, ne_eq, reduceCtorEq, Int.reduceToNat, Nat.reduceEqDiff, Nat.reduceAdd, Nat.reduceSub, Nat.reduceMul, Int.reduceAdd, Int.reduceMul, Int.reduceSub, Int.reduceLT, Int.reduceLE, Int.reduceEq, Int.reduceNe, Nat.reduceLeDiff, Nat.reduceLT, Int.reduceNeg, Nat.reducePow, Nat.reduceMod, ByteArray.size, d1, hu]))
  · have d1 := decide_eq_false c1
    have hx : (b.getD (i / 8) 0).toNat < 256 := (b.getD (i / 8) 0).toNat_lt
    have hu : bitN b i = (b.getD (i / 8) 0).toNat / 2 ^ (7 - i % 8) % 2 := if_neg (by omega)
    have h7 : (7 : Int) - ((i % 8 : Nat) : Int) = ((7 - i % 8 : Nat) : Int) := by omega
    repeat (first | refine SWp.seq ?_ | refine SWp.block ?_ | refine SWp.condT rfl ?_ | refine SWp.condF rfl ?_ | refine LoopAt.next ?_ | refine And.intro (by omega) ?_ | ((first | refine SWp.reg ?_ | refine SWp.skip ?_ | refine SWp.exit ?_ | refine SWp.ret ?_ | refine (fun h => h : AOps _ _ _ _ → AOps _ _ _ _) ?_); simp (disch := omega) only [wR0, wR1, wR2, wR3, wR4, wR5, wR6, wR7, undef, Prod.mk.injEq, Option.some.injEq, eq_self, UInt8.reduceToNat, Nat.reduceOr, Nat.reduceAnd, Nat.reduceXor, Nat.reduceDiv, if_pos, if_neg, aBin, aStr, aUn, aBeq, aPick, aCi, aIsnil, aStrId, aB2s, aS2b, aBound, aSls, aSl, aSla, aFaddr, partA, aFld, aIaddr, aIaddrA, aIdxS, aIdxA, aLoad, aExt, aNilc, aLenS, aLen, splice, aBuild, shA, allSh, aBslice, aBsl, allShW, elemsA, flatOk, aApp, aMks, aStore, aBox, aCopy, frz, frz.frzL, live, chunks, flat, esz, u8, AV.free, AV.free.freeL, AV.flat, AV.flat.flatL, boo, int, str, ↓reduceIte, ne_eq, reduceCtorEq, Int.reduceToNat, Nat.reduceEqDiff, Nat.reduceAdd, Nat.reduceSub, Nat.reduceMul, Int.reduceAdd, Int.reduceMul, Int.reduceSub, Int.reduceLT, Int.reduceLE, Int.reduceEq, Int.reduceNe, Nat.reduceLeDiff, Nat.reduceLT, Int.reduceNeg, Nat.reducePow, Nat.reduceMod, ByteArray.size, d1]))
    refine SWp.loop (α := Nat × Nat) (fun x => mk 29 0 [(0, .sl nl none (b.map u8)), (1, int i), (5, int x.2), (6, int x.1)] [])
      (fun x => x.1 ≤ 7 - i % 8 ∧ x.2 = (b.getD (i / 8) 0).toNat / 2 ^ x.1 ∧ x.2 < 256) (fun x => 7 - i % 8 - x.1) (0, (b.getD (i / 8) 0).toNat) ⟨Nat.zero_le _, by simp, hx⟩ (le_mk rfl ?_ ?_ ?_) ?_
    · exact Nat.le_refl _
    · simp (disch := omega) only [wR0, wR1, wR2, wR3, wR4, wR5, wR6, wR7, undef, Prod.mk.injEq, Option.some.injEq, eq_self, UInt8.reduceToNat, Nat.reduceOr, Nat.reduceAnd, Nat.reduceXor, Nat.reduceDiv, if_pos, if_neg, aBin, aStr, aUn, aBeq, aPick, aCi, aIsnil, aStrId, aB2s, aS2b, aBound, aSls, aSl, aSla, aFaddr, partA, aFld, aIaddr, aIaddrA, aIdxS, aIdxA, aLoad, aExt, aNilc, aLenS, aLen, splice, aBuild, shA, allSh, aBslice, aBsl, allShW, elemsA, flatOk, aApp, aMks, aStore, aBox, aCopy, frz, frz.frzL, live, chunks, flat, esz, u8, AV.free, AV.free.freeL, AV.flat, AV.flat.flatL, boo, int, str, ↓reduceIte, ne_eq, reduceCtorEq, Int.reduceToNat, Nat.reduceEqDiff, Nat.reduceAdd, Nat.reduceSub, Nat.reduceMul, Int.reduceAdd, Int.reduceMul, Int.reduceSub, Int.reduceLT, Int.reduceLE, Int.reduceEq, Int.reduceNe, Nat.reduceLeDiff, Nat.reduceLT, Int.reduceNeg, Nat.reducePow, Nat.reduceMod, ByteArray.size]
    · simp (disch := omega) only [wR0, wR1, wR2, wR3, wR4, wR5, wR6, wR7, undef, Prod.mk.injEq, Option.some.injEq, eq_self, UInt8.reduceToNat, Nat.reduceOr, Nat.reduceAnd, Nat.reduceXor, Nat.reduceDiv, if_pos, if_neg, aBin, aStr, aUn, aBeq, aPick, aCi, aIsnil, aStrId, aB2s, aS2b, aBound, aSls, aSl, aSla, aFaddr, partA, aFld, aIaddr, aIaddrA, aIdxS, aIdxA, aLoad, aExt, aNilc, aLenS, aLen, splice, aBuild, shA, allSh, aBslice, aBsl, allShW, elemsA, flatOk, aApp, aMks, aStore, aBox, aCopy, frz, frz.frzL, live, chunks, flat, esz, u8, AV.free, AV.free.freeL, AV.flat, AV.flat.flatL, boo, int, str, ↓reduceIte, ne_eq, reduceCtorEq, Int.reduceToNat, Nat.reduceEqDiff, Nat.reduceAdd, Nat.reduceSub, Nat.reduceMul, Int.reduceAdd, Int.reduceMul, Int.reduceSub, Int.reduceLT, Int.reduceLE, Int.reduceEq, Int.reduceNe, Nat.reduceLeDiff, Nat.reduceLT, Int.reduceNeg, Nat.reducePow, Nat.reduceMod, ByteArray.size]
    · rintro ⟨k, v⟩ ⟨hk, hv, hv2⟩ -
      simp only at hk hv hv2
      repeat (first | refine SWp.seq ?_ | refine SWp.block ?_ | refine SWp.condT rfl ?_ | refine SWp.condF rfl ?_ | refine LoopAt.next ?_ | refine And.intro (by omega) ?_ | ((first | refine SWp.reg ?_ | refine SWp.skip ?_ | refine SWp.exit ?_ | refine SWp.ret ?_ | refine (fun h => h : AOps _ _ _ _ → AOps _ _ _ _) ?_); simp (disch := omega) only [wR0, wR1, wR2, wR3, wR4, wR5, wR6, wR7, undef, Prod.mk.injEq, Option.some.injEq, eq_self, UInt8.reduceToNat, Nat.reduceOr, Nat.reduceAnd, Nat.reduceXor, Nat.reduceDiv, if_pos, if_neg, aBin, aStr, aUn, aBeq, aPick, aCi, aIsnil, aStrId, aB2s, aS2b, aBound, aSls, aSl, aSla, aFaddr, partA, aFld, aIaddr, aIaddrA, aIdxS, aIdxA, aLoad, aExt, aNilc, aLenS, aLen, splice, aBuild, shA, allSh, aBslice, aBsl, allShW, elemsA, flatOk, aApp, aMks, aStore, aBox, aCopy, frz, frz.frzL, live, chunks, flat, esz, u8, AV.free, AV.free.freeL, AV.flat, AV.flat.flatL, boo, int, str, ↓reduceIte, ne_eq, reduceCtorEq, Int.reduceToNat, Nat.reduceEqDiff, Nat.reduceAdd, Nat.reduceSub, Nat.reduceMul, Int.reduceAdd, Int.reduceMul, Int.reduceSub, Int.reduceLT, Int.reduceLE, Int.reduceEq, Int.reduceNe, Nat.reduceLeDiff, Nat.reduceLT, Int.reduceNeg, Nat.reducePow, Nat.reduceMod, ByteArray.size, h7]))
      refine SWp.cond rfl (fun h => ?_) (fun h => ?_)
      · simp only [decide_eq_true_eq] at h
        repeat (first | refine SWp.seq ?_ | refine SWp.block ?_ | refine SWp.condT rfl ?_ | refine SWp.condF rfl ?_ | refine LoopAt.next ?_ | refine And.intro (by omega) ?_ | ((first | refine SWp.reg ?_ | refine SWp.skip ?_ | refine SWp.exit ?_ | refine SWp.ret ?_ | refine (fun h => h : AOps _ _ _ _ → AOps _ _ _ _) ?_); simp (disch := omega) only [wR0, wR1, wR2, wR3, wR4, wR5, wR6, wR7, undef, Prod.mk.injEq, Option.some.injEq, eq_self, UInt8.reduceToNat, Nat.reduceOr, Nat.reduceAnd, Nat.reduceXor, Nat.reduceDiv, if_pos, if_neg, aBin, aStr, aUn, aBeq, aPick, aCi, aIsnil, aStrId, aB2s, aS2b, aBound, aSls, aSl, aSla, aFaddr, partA, aFld, aIaddr, aIaddrA, aIdxS, aIdxA, aLoad, aExt, aNilc, aLenS, aLen, splice, aBuild, shA, allSh, aBslice, aBsl, allShW, elemsA, flatOk, aApp, aMks, aStore, aBox, aCopy, frz, frz.frzL, live, chunks, flat, esz, u8, AV.free, AV.free.freeL, AV.flat, AV.flat.flatL, boo, int, str, ↓reduceIte, ne_eq, reduceCtorEq, Int.reduceToNat, Nat.reduceEqDiff, Nat.reduceAdd, Nat.reduceSub, Nat.reduceMul, Int.reduceAdd, Int.reduceMul, Int.reduceSub, Int.reduceLT, Int.reduceLE, Int.reduceEq, Int.reduceNe, Nat.reduceLeDiff, Nat.reduceLT, Int.reduceNeg, Nat.reducePow, Nat.reduceMod, ByteArray.size]))
        refine At.of (k + 1, v / 2) ⟨by simp only; omega, by simp only; rw [hv, Nat.div_div_eq_div_mul, Nat.pow_succ], by simp only; omega⟩ (by simp only; omega) rfl rfl (Nat.le_refl _) ?_ ?_
        · simp (disch := omega) only [wR0, wR1, wR2, wR3, wR4, wR5, wR6, wR7, undef, Prod.mk.injEq, Option.some.injEq, eq_self, UInt8.reduceToNat, Nat.reduceOr, Nat.reduceAnd, Nat.reduceXor, Nat.reduceDiv, if_pos, if_neg, aBin, aStr, aUn, aBeq, aPick, aCi, aIsnil, aStrId, aB2s, aS2b, aBound, aSls, aSl, aSla, aFaddr, partA, aFld, aIaddr, aIaddrA, aIdxS, aIdxA, aLoad, aExt, aNilc, aLenS, aLen, splice, aBuild, shA, allSh, aBslice, aBsl, allShW, elemsA, flatOk, aApp, aMks, aStore, aBox, aCopy, frz, frz.frzL, live, chunks, flat, esz, u8, AV.free, AV.free.freeL, AV.flat, AV.flat.flatL, boo, int, str, ↓reduceIte, ne_eq, reduceCtorEq, Int.reduceToNat, Nat.reduceEqDiff, Nat.reduceAdd, Nat.reduceSub, Nat.reduceMul, Int.reduceAdd, Int.reduceMul, Int.reduceSub, Int.reduceLT, Int.reduceLE, Int.reduceEq, Int.reduceNe, Nat.reduceLeDiff, Nat.reduceLT, Int.reduceNeg, Nat.reducePow, Nat.reduceMod, ByteArray.size]
        · simp (disch := omega) only [wR0, wR1, wR2, wR3, wR4, wR5, wR6, wR7, undef, Prod.mk.injEq, Option.some.injEq, eq_self, UInt8.reduceToNat, Nat.reduceOr, Nat.reduceAnd, Nat.reduceXor, Nat.reduceDiv, if_pos, if_neg, aBin, aStr, aUn, aBeq, aPick, aCi, aIsnil, aStrId, aB2s, aS2b, aBound, aSls, aSl, aSla, aFaddr, partA, aFld, aIaddr, aIaddrA, aIdxS, aIdxA, aLoad, aExt, aNilc, aLenS, aLen, splice, aBuild, shA, allSh, aBslice, aBsl, allShW, elemsA, flatOk, aApp, aMks, aStore, aBox, aCopy, frz, frz.frzL, live, chunks, flat, esz, u8, AV.free, AV.free.freeL, AV.flat, AV.flat.flatL, boo, int, str, ↓reduceIte, ne_eq, reduceCtorEq, Int.reduceToNat, Nat.reduceEqDiff, Nat.reduceAdd, Nat.reduceSub, Nat.reduceMul, Int.reduceAdd, Int.reduceMul, Int.reduceSub, Int.reduceLT, Int.reduceLE, Int.reduceEq, Int.reduceNe, Nat.reduceLeDiff, Nat.reduceLT, Int.reduceNeg, Nat.reducePow, Nat.reduceMod, ByteArray.size]
      · simp only [decide_eq_false_iff_not] at h
        obtain rfl : k = 7 - i % 8 := by omega
        repeat (first | refine SWp.seq ?_ | refine SWp.block ?_ | refine SWp.condT rfl ?_ | refine SWp.condF rfl ?_ | refine LoopAt.next ?_ | refine And.intro (by omega) ?_ | ((first | refine SWp.reg ?_ | refine SWp.skip ?_ | refine SWp.exit ?_ | refine SWp.ret ?_ | refine (fun h => h : AOps _ _ _ _ → AOps _ _ _ _) ?_); simp (disch := omega) only [wR0, wR1, wR2, wR3, wR4, wR5, wR6, wR7, undef, Prod.mk.injEq, Option.some.injEq, eq_self, UInt8.reduceToNat, Nat.reduceOr, Nat.reduceAnd, Nat.reduceXor, Nat.reduceDiv, if_pos, if_neg, aBin, aStr, aUn, aBeq, aPick, aCi, aIsnil, aStrId, aB2s, aS2b, aBound, aSls, aSl, aSla, aFaddr, partA, aFld, aIaddr, aIaddrA, aIdxS, aIdxA, aLoad, aExt, aNilc, aLenS, aLen, splice, aBuild, shA, allSh, aBslice, aBsl, allShW, elemsA, flatOk, aApp, aMks, aStore, aBox, aCopy, frz, frz.frzL, live, chunks, flat, esz, u8, AV.free, AV.free.freeL, AV.flat, AV.flat.flatL, boo, int, str, ↓reduceIte, ne_eq, reduceCtorEq, Int.reduceToNat, Nat.reduceEqDiff, Nat.reduceAdd, Nat.reduceSub, Nat.reduceMul, Int.reduceAdd, Int.reduceMul, Int.reduceSub, Int.reduceLT, Int.reduceLE, Int.reduceEq, Int.reduceNe, Nat.reduceLeDiff, Nat.reduceLT, Int.reduceNeg, Nat.reducePow, Nat.reduceMod, ByteArray.size, hu, ← hv]))

set_option maxHeartbeats 1000000 in
set_option maxRecDepth 100000 in
theorem ref_Base64_c [Tabs Tryd.prog] (nl : Bool) (b : List UInt8) (hb : b.length ≤ 1000000) : Con Tryd.prog n_drayageref01_Base64 [.sl nl none (b.map u8)] (str (refB64 b)) := by
  refine Con.of' mix Tryd.func17 rfl Tryd.ntmps17 e_drayageref01_Base64 r_drayageref01_Base64 (by simp) (by simp only [AV.free, AV.free.freeL, free_u8, Bool.and_self]) rfl ?_
  unfold s_drayageref01_Base64
  obtain ⟨R, hR⟩ : ∃ R, R = (8 * b.length + 5) / 6 := ⟨_, rfl⟩
  repeat (first | refine SWp.seq ?_ | refine SWp.block ?_ | refine SWp.condT rfl ?_ | refine SWp.condF rfl ?_ | refine LoopAt.next ?_ | refine And.intro (by omega) ?_ | ((first | refine SWp.reg ?_ | refine SWp.skip ?_ | refine SWp.exit ?_ | refine SWp.ret ?_ | refine (fun h => h : AOps _ _ _ _ → AOps _ _ _ _) ?_); simp (disch := omega) only [wR0, wR1, wR2, wR3, wR4, wR5, wR6, wR7, undef, Prod.mk.injEq, Option.some.injEq, eq_self, UInt8.reduceToNat, Nat.reduceOr, Nat.reduceAnd, Nat.reduceXor, Nat.reduceDiv, if_pos, if_neg, aBin, aStr, aUn, aBeq, aPick, aCi, aIsnil, aStrId, aB2s, aS2b, aBound, aSls, aSl, aSla, aFaddr, partA, aFld, aIaddr, aIaddrA, aIdxS, aIdxA, aLoad, aExt, aNilc, aLenS, aLen, splice, aBuild, shA, allSh, aBslice, aBsl, allShW, elemsA, flatOk, aApp, aMks, aStore, aBox, aCopy, frz, frz.frzL, live, chunks, flat, esz, u8, AV.free, AV.free.freeL, AV.flat, AV.flat.flatL, boo, int, str, ↓reduceIte, ne_eq, reduceCtorEq, Int.reduceToNat, Nat.reduceEqDiff, Nat.reduceAdd, Nat.reduceSub, Nat.reduceMul, Int.reduceAdd, Int.reduceMul, Int.reduceSub, Int.reduceLT, Int.reduceLE, Int.reduceEq, Int.reduceNe, Nat.reduceLeDiff, Nat.reduceLT, Int.reduceNeg, Nat.reducePow, Nat.reduceMod, ByteArray.size]))
  refine SWp.adopt 3 none (by simp (disch := omega) only [wR0, wR1, wR2, wR3, wR4, wR5, wR6, wR7, undef, Prod.mk.injEq, Option.some.injEq, eq_self, UInt8.reduceToNat, Nat.reduceOr, Nat.reduceAnd, Nat.reduceXor, Nat.reduceDiv, if_pos, if_neg, aBin, aStr, aUn, aBeq, aPick, aCi, aIsnil, aStrId, aB2s, aS2b, aBound, aSls, aSl, aSla, aFaddr, partA, aFld, aIaddr, aIaddrA, aIdxS, aIdxA, aLoad, aExt, aNilc, aLenS, aLen, splice, aBuild, shA, allSh, aBslice, aBsl, allShW, elemsA, flatOk, aApp, aMks, aStore, aBox, aCopy, frz, frz.frzL, live, chunks, flat, esz, u8, AV.free, AV.free.freeL, AV.flat, AV.flat.flatL, boo, int, str, ↓reduceIte, ne_eq, reduceCtorEq, Int.reduceToNat, Nat.reduceEqDiff, Nat.reduceAdd, Nat.reduceSub, Nat.reduceMul, Int.reduceAdd, Int.reduceMul, Int.reduceSub, Int.reduceLT, Int.reduceLE, Int.reduceEq, Int.reduceNe, Nat.reduceLeDiff, Nat.reduceLT, Int.reduceNeg, Nat.reducePow, Nat.reduceMod, ByteArray.size]) ?_
  refine SWp.loop (α := Nat × Nat × Nat) (fun x => mk 40 x.2.2 [(0, .sl nl none (b.map u8)), (3, .own 3 x.2.1 none 0 x.1), (4, int (6 * x.1 : Nat))] [(3, x.2.1, .row (nl0 x.1) ((outR b x.1).map u8))])
    (fun x => x.1 ≤ R) (fun x => R - x.1) (0, 0, 1) (Nat.zero_le _) (le_mk rfl ?_ ?_ ?_) ?_
  · exact Nat.le_refl _
  · simp (disch := omega) only [wR0, wR1, wR2, wR3, wR4, wR5, wR6, wR7, undef, Prod.mk.injEq, Option.some.injEq, eq_self, UInt8.reduceToNat, Nat.reduceOr, Nat.reduceAnd, Nat.reduceXor, Nat.reduceDiv, if_pos, if_neg, aBin, aStr, aUn, aBeq, aPick, aCi, aIsnil, aStrId, aB2s, aS2b, aBound, aSls, aSl, aSla, aFaddr, partA, aFld, aIaddr, aIaddrA, aIdxS, aIdxA, aLoad, aExt, aNilc, aLenS, aLen, splice, aBuild, shA, allSh, aBslice, aBsl, allShW, elemsA, flatOk, aApp, aMks, aStore, aBox, aCopy, frz, frz.frzL, live, chunks, flat, esz, u8, AV.free, AV.free.freeL, AV.flat, AV.flat.flatL, boo, int, str, ↓reduceIte, ne_eq, reduceCtorEq, Int.reduceToNat, Nat.reduceEqDiff, Nat.reduceAdd, Nat.reduceSub, Nat.reduceMul, Int.reduceAdd, Int.reduceMul, Int.reduceSub, Int.reduceLT, Int.reduceLE, Int.reduceEq, Int.reduceNe, Nat.reduceLeDiff, Nat.reduceLT, Int.reduceNeg, Nat.reducePow, Nat.reduceMod, ByteArray.size]
  · simp (disch := omega) only [wR0, wR1, wR2, wR3, wR4, wR5, wR6, wR7, undef, Prod.mk.injEq, Option.some.injEq, eq_self, UInt8.reduceToNat, Nat.reduceOr, Nat.reduceAnd, Nat.reduceXor, Nat.reduceDiv, if_pos, if_neg, aBin, aStr, aUn, aBeq, aPick, aCi, aIsnil, aStrId, aB2s, aS2b, aBound, aSls, aSl, aSla, aFaddr, partA, aFld, aIaddr, aIaddrA, aIdxS, aIdxA, aLoad, aExt, aNilc, aLenS, aLen, splice, aBuild, shA, allSh, aBslice, aBsl, allShW, elemsA, flatOk, aApp, aMks, aStore, aBox, aCopy, frz, frz.frzL, live, chunks, flat, esz, u8, AV.free, AV.free.freeL, AV.flat, AV.flat.flatL, boo, int, str, ↓reduceIte, ne_eq, reduceCtorEq, Int.reduceToNat, Nat.reduceEqDiff, Nat.reduceAdd, Nat.reduceSub, Nat.reduceMul, Int.reduceAdd, Int.reduceMul, Int.reduceSub, Int.reduceLT, Int.reduceLE, Int.reduceEq, Int.reduceNe, Nat.reduceLeDiff, Nat.reduceLT, Int.reduceNeg, Nat.reducePow, Nat.reduceMod, ByteArray.size, outR, nl0_zero]
  rintro ⟨r, g, c⟩ hr -
  simp only at hr
  have hlo := length_outR b r
  repeat (first | refine SWp.seq ?_ | refine SWp.block ?_ | refine SWp.condT rfl ?_ | refine SWp.condF rfl ?_ | refine LoopAt.next ?_ | refine And.intro (by omega) ?_ | ((first | refine SWp.reg ?_ | refine SWp.skip ?_ | refine SWp.exit ?_ | refine SWp.ret ?_ | refine (fun h => h : AOps _ _ _ _ → AOps _ _ _ _) ?_); simp (disch := omega) only [wR0, wR1, wR2, wR3, wR4, wR5, wR6, wR7, undef, Prod.mk.injEq, Option.some.injEq, eq_self, UInt8.reduceToNat, Nat.reduceOr, Nat.reduceAnd, Nat.reduceXor, Nat.reduceDiv, if_pos, if_neg, aBin, aStr, aUn, aBeq, aPick, aCi, aIsnil, aStrId, aB2s, aS2b, aBound, aSls, aSl, aSla, aFaddr, partA, aFld, aIaddr, aIaddrA, aIdxS, aIdxA, aLoad, aExt, aNilc, aLenS, aLen, splice, aBuild, shA, allSh, aBslice, aBsl, allShW, elemsA, flatOk, aApp, aMks, aStore, aBox, aCopy, frz, frz.frzL, live, chunks, flat, esz, u8, AV.free, AV.free.freeL, AV.flat, AV.flat.flatL, boo, int, str, ↓reduceIte, ne_eq, reduceCtorEq, Int.reduceToNat, Nat.reduceEqDiff, Nat.reduceAdd, Nat.reduceSub, Nat.reduceMul, Int.reduceAdd, Int.reduceMul, Int.reduceSub, Int.reduceLT, Int.reduceLE, Int.reduceEq, Int.reduceNe, Nat.reduceLeDiff, Nat.reduceLT, Int.reduceNeg, Nat.reducePow, Nat.reduceMod, ByteArray.size]))
  refine SWp.cond rfl (fun h => ?_) (fun h => ?_)
  · simp only [decide_eq_true_eq] at h
    have hr' : r < R := by omega
    repeat (first | refine SWp.seq ?_ | refine SWp.block ?_ | refine SWp.condT rfl ?_ | refine SWp.condF rfl ?_ | refine LoopAt.next ?_ | refine And.intro (by omega) ?_ | ((first | refine SWp.reg ?_ | refine SWp.skip ?_ | refine SWp.exit ?_ | refine SWp.ret ?_ | refine (fun h => h : AOps _ _ _ _ → AOps _ _ _ _) ?_); simp (disch := omega) only [wR0, wR1, wR2, wR3, wR4, wR5, wR6, wR7, undef, Prod.mk.injEq, Option.some.injEq, eq_self, UInt8.reduceToNat, Nat.reduceOr, Nat.reduceAnd, Nat.reduceXor, Nat.reduceDiv, if_pos, if_neg, aBin, aStr, aUn, aBeq, aPick, aCi, aIsnil, aStrId, aB2s, aS2b, aBound, aSls, aSl, aSla, aFaddr, partA, aFld, aIaddr, aIaddrA, aIdxS, aIdxA, aLoad, aExt, aNilc, aLenS, aLen, splice, aBuild, shA, allSh, aBslice, aBsl, allShW, elemsA, flatOk, aApp, aMks, aStore, aBox, aCopy, frz, frz.frzL, live, chunks, flat, esz, u8, AV.free, AV.free.freeL, AV.flat, AV.flat.flatL, boo, int, str, ↓reduceIte, ne_eq, reduceCtorEq, Int.reduceToNat, Nat.reduceEqDiff, Nat.reduceAdd, Nat.reduceSub, Nat.reduceMul, Int.reduceAdd, Int.reduceMul, Int.reduceSub, Int.reduceLT, Int.reduceLE, Int.reduceEq, Int.reduceNe, Nat.reduceLeDiff, Nat.reduceLT, Int.reduceNeg, Nat.reducePow, Nat.reduceMod, ByteArray.size]))
    refine SWp.loop (α := Nat) (fun k => mk 40 c [(0, .sl nl none (b.map u8)), (3, .own 3 g none 0 r), (4, int (6 * r : Nat)), (5, int (sixK b (6 * r) k)), (6, int k)] [(3, g, .row (nl0 r) ((outR b r).map u8))])
      (fun k => k ≤ 6) (fun k => 6 - k) 0 (Nat.zero_le _) (le_mk rfl ?_ ?_ ?_) ?_
    · exact Nat.le_refl _
    · simp (disch := omega) only [wR0, wR1, wR2, wR3, wR4, wR5, wR6, wR7, undef, Prod.mk.injEq, Option.some.injEq, eq_self, UInt8.reduceToNat, Nat.reduceOr, Nat.reduceAnd, Nat.reduceXor, Nat.reduceDiv, if_pos, if_neg, aBin, aStr, aUn, aBeq, aPick, aCi, aIsnil, aStrId, aB2s, aS2b, aBound, aSls, aSl, aSla, aFaddr, partA, aFld, aIaddr, aIaddrA, aIdxS, aIdxA, aLoad, aExt, aNilc, aLenS, aLen, splice, aBuild, shA, allSh, aBslice, aBsl, allShW, elemsA, flatOk, aApp, aMks, aStore, aBox, aCopy, frz, frz.frzL, live, chunks, flat, esz, u8, AV.free, AV.free.freeL, AV.flat, AV.flat.flatL, boo, int, str, ↓reduceIte, ne_eq, reduceCtorEq, Int.reduceToNat, Nat.reduceEqDiff, Nat.reduceAdd, Nat.reduceSub, Nat.reduceMul, Int.reduceAdd, Int.reduceMul, Int.reduceSub, Int.reduceLT, Int.reduceLE, Int.reduceEq, Int.reduceNe, Nat.reduceLeDiff, Nat.reduceLT, Int.reduceNeg, Nat.reducePow, Nat.reduceMod, ByteArray.size, sixK]
    · simp (disch := omega) only [wR0, wR1, wR2, wR3, wR4, wR5, wR6, wR7, undef, Prod.mk.injEq, Option.some.injEq, eq_self, UInt8.reduceToNat, Nat.reduceOr, Nat.reduceAnd, Nat.reduceXor, Nat.reduceDiv, if_pos, if_neg, aBin, aStr, aUn, aBeq, aPick, aCi, aIsnil, aStrId, aB2s, aS2b, aBound, aSls, aSl, aSla, aFaddr, partA, aFld, aIaddr, aIaddrA, aIdxS, aIdxA, aLoad, aExt, aNilc, aLenS, aLen, splice, aBuild, shA, allSh, aBslice, aBsl, allShW, elemsA, flatOk, aApp, aMks, aStore, aBox, aCopy, frz, frz.frzL, live, chunks, flat, esz, u8, AV.free, AV.free.freeL, AV.flat, AV.flat.flatL, boo, int, str, ↓reduceIte, ne_eq, reduceCtorEq, Int.reduceToNat, Nat.reduceEqDiff, Nat.reduceAdd, Nat.reduceSub, Nat.reduceMul, Int.reduceAdd, Int.reduceMul, Int.reduceSub, Int.reduceLT, Int.reduceLE, Int.reduceEq, Int.reduceNe, Nat.reduceLeDiff, Nat.reduceLT, Int.reduceNeg, Nat.reducePow, Nat.reduceMod, ByteArray.size]
    rintro k hk -
    have hs64 := sixK_64 b (6 * r) k hk
    have hbt := bitN_lt b (6 * r + k)
    repeat (first | refine SWp.seq ?_ | refine SWp.block ?_ | refine SWp.condT rfl ?_ | refine SWp.condF rfl ?_ | refine LoopAt.next ?_ | refine And.intro (by omega) ?_ | ((first | refine SWp.reg ?_ | refine SWp.skip ?_ | refine SWp.exit ?_ | refine SWp.ret ?_ | refine (fun h => h : AOps _ _ _ _ → AOps _ _ _ _) ?_); simp (disch := omega) only [wR0, wR1, wR2, wR3, wR4, wR5, wR6, wR7, undef, Prod.mk.injEq, Option.some.injEq, eq_self, UInt8.reduceToNat, Nat.reduceOr, Nat.reduceAnd, Nat.reduceXor, Nat.reduceDiv, if_pos, if_neg, aBin, aStr, aUn, aBeq, aPick, aCi, aIsnil, aStrId, aB2s, aS2b, aBound, aSls, aSl, aSla, aFaddr, partA, aFld, aIaddr, aIaddrA, aIdxS, aIdxA, aLoad, aExt, aNilc, aLenS, aLen, splice, aBuild, shA, allSh, aBslice, aBsl, allShW, elemsA, flatOk, aApp, aMks, aStore, aBox, aCopy, frz, frz.frzL, live, chunks, flat, esz, u8, AV.free, AV.free.freeL, AV.flat, AV.flat.flatL, boo, int, str, ↓reduceIte, ne_eq, reduceCtorEq, Int.reduceToNat, Nat.reduceEqDiff, Nat.reduceAdd, Nat.reduceSub, Nat.reduceMul, Int.reduceAdd, Int.reduceMul, Int.reduceSub, Int.reduceLT, Int.reduceLE, Int.reduceEq, Int.reduceNe, Nat.reduceLeDiff, Nat.reduceLT, Int.reduceNeg, Nat.reducePow, Nat.reduceMod, ByteArray.size]))
    refine SWp.cond rfl (fun h => ?_) (fun h => ?_)
    · simp only [decide_eq_true_eq] at h
      repeat (first | refine SWp.seq ?_ | refine SWp.block ?_ | refine SWp.condT rfl ?_ | refine SWp.condF rfl ?_ | refine LoopAt.next ?_ | refine And.intro (by omega) ?_ | ((first | refine SWp.reg ?_ | refine SWp.skip ?_ | refine SWp.exit ?_ | refine SWp.ret ?_ | refine (fun h => h : AOps _ _ _ _ → AOps _ _ _ _) ?_); simp (disch := omega) only [wR0, wR1, wR2, wR3, wR4, wR5, wR6, wR7, undef, Prod.mk.injEq, Option.some.injEq, eq_self, UInt8.reduceToNat, Nat.reduceOr, Nat.reduceAnd, Nat.reduceXor, Nat.reduceDiv, if_pos, if_neg, aBin, aStr, aUn, aBeq, aPick, aCi, aIsnil, aStrId, aB2s, aS2b, aBound, aSls, aSl, aSla, aFaddr, partA, aFld, aIaddr, aIaddrA, aIdxS, aIdxA, aLoad, aExt, aNilc, aLenS, aLen, splice, aBuild, shA, allSh, aBslice, aBsl, allShW, elemsA, flatOk, aApp, aMks, aStore, aBox, aCopy, frz, frz.frzL, live, chunks, flat, esz, u8, AV.free, AV.free.freeL, AV.flat, AV.flat.flatL, boo, int, str, ↓reduceIte, ne_eq, reduceCtorEq, Int.reduceToNat, Nat.reduceEqDiff, Nat.reduceAdd, Nat.reduceSub, Nat.reduceMul, Int.reduceAdd, Int.reduceMul, Int.reduceSub, Int.reduceLT, Int.reduceLE, Int.reduceEq, Int.reduceNe, Nat.reduceLeDiff, Nat.reduceLT, Int.reduceNeg, Nat.reducePow, Nat.reduceMod, ByteArray.size]))
      refine goC_p (int (bitN b (6 * r + k))) (.inl ⟨by simp only [AV.free, AV.free.freeL, free_u8, Bool.and_self], ?_⟩) ?_
      · have := ref_Bit_c nl b hb (6 * r + k) (by omega)
        have e : int ((6 * r + k : Nat) : Int) = .sc (.int .i64 (((6 * r : Nat) : Int) + (k : Int))) := by unfold int; congr 2
        rw [e] at this
        exact this
      repeat (first | refine SWp.seq ?_ | refine SWp.block ?_ | refine SWp.condT rfl ?_ | refine SWp.condF rfl ?_ | refine LoopAt.next ?_ | refine And.intro (by omega) ?_ | ((first | refine SWp.reg ?_ | refine SWp.skip ?_ | refine SWp.exit ?_ | refine SWp.ret ?_ | refine (fun h => h : AOps _ _ _ _ → AOps _ _ _ _) ?_); simp (disch := omega) only [wR0, wR1, wR2, wR3, wR4, wR5, wR6, wR7, undef, Prod.mk.injEq, Option.some.injEq, eq_self, UInt8.reduceToNat, Nat.reduceOr, Nat.reduceAnd, Nat.reduceXor, Nat.reduceDiv, if_pos, if_neg, aBin, aStr, aUn, aBeq, aPick, aCi, aIsnil, aStrId, aB2s, aS2b, aBound, aSls, aSl, aSla, aFaddr, partA, aFld, aIaddr, aIaddrA, aIdxS, aIdxA, aLoad, aExt, aNilc, aLenS, aLen, splice, aBuild, shA, allSh, aBslice, aBsl, allShW, elemsA, flatOk, aApp, aMks, aStore, aBox, aCopy, frz, frz.frzL, live, chunks, flat, esz, u8, AV.free, AV.free.freeL, AV.flat, AV.flat.flatL, boo, int, str, ↓reduceIte, ne_eq, reduceCtorEq, Int.reduceToNat, Nat.reduceEqDiff, Nat.reduceAdd, Nat.reduceSub, Nat.reduceMul, Int.reduceAdd, Int.reduceMul, Int.reduceSub, Int.reduceLT, Int.reduceLE, Int.reduceEq, Int.reduceNe, Nat.reduceLeDiff, Nat.reduceLT, Int.reduceNeg, Nat.reducePow, Nat.reduceMod, ByteArray.size]))
      refine At.of (k + 1) (by omega) (by omega) rfl rfl (Nat.le_refl _) ?_ ?_
      · simp (disch := omega) only [wR0, wR1, wR2, wR3, wR4, wR5, wR6, wR7, undef, Prod.mk.injEq, Option.some.injEq, eq_self, UInt8.reduceToNat, Nat.reduceOr, Nat.reduceAnd, Nat.reduceXor, Nat.reduceDiv, if_pos, if_neg, aBin, aStr, aUn, aBeq, aPick, aCi, aIsnil, aStrId, aB2s, aS2b, aBound, aSls, aSl, aSla, aFaddr, partA, aFld, aIaddr, aIaddrA, aIdxS, aIdxA, aLoad, aExt, aNilc, aLenS, aLen, splice, aBuild, shA, allSh, aBslice, aBsl, allShW, elemsA, flatOk, aApp, aMks, aStore, aBox, aCopy, frz, frz.frzL, live, chunks, flat, esz, u8, AV.free, AV.free.freeL, AV.flat, AV.flat.flatL, boo, int, str, ↓reduceIte, ne_eq, reduceCtorEq, Int.reduceToNat, Nat.reduceEqDiff, Nat.reduceAdd, Nat.reduceSub, Nat.reduceMul, Int.reduceAdd, Int.reduceMul, Int.reduceSub, Int.reduceLT, Int.reduceLE, Int.reduceEq, Int.reduceNe, Nat.reduceLeDiff, Nat.reduceLT, Int.reduceNeg, Nat.reducePow, Nat.reduceMod, ByteArray.size, sixK]
        omega
      · simp (disch := omega) only [wR0, wR1, wR2, wR3, wR4, wR5, wR6, wR7, undef, Prod.mk.injEq, Option.some.injEq, eq_self, UInt8.reduceToNat, Nat.reduceOr, Nat.reduceAnd, Nat.reduceXor, Nat.reduceDiv, if_pos, if_neg, aBin, aStr, aUn, aBeq, aPick, aCi, aIsnil, aStrId, aB2s, aS2b, aBound, aSls, aSl, aSla, aFaddr, partA, aFld, aIaddr, aIaddrA, aIdxS, aIdxA, aLoad, aExt, aNilc, aLenS, aLen, splice, aBuild, shA, allSh, aBslice, aBsl, allShW, elemsA, flatOk, aApp, aMks, aStore, aBox, aCopy, frz, frz.frzL, live, chunks, flat, esz, u8, AV.free, AV.free.freeL, AV.flat, AV.flat.flatL, boo, int, str, ↓reduceIte, ne_eq, reduceCtorEq, Int.reduceToNat, Nat.reduceEqDiff, Nat.reduceAdd, Nat.reduceSub, Nat.reduceMul, Int.reduceAdd, Int.reduceMul, Int.reduceSub, Int.reduceLT, Int.reduceLE, Int.reduceEq, Int.reduceNe, Nat.reduceLeDiff, Nat.reduceLT, Int.reduceNeg, Nat.reducePow, Nat.reduceMod, ByteArray.size]
    · simp only [decide_eq_false_iff_not] at h
      obtain rfl : k = 6 := by omega
      have hsg : ([65, 66, 67, 68, 69, 70, 71, 72, 73, 74, 75, 76, 77, 78, 79, 80, 81, 82, 83, 84, 85, 86, 87, 88, 89, 90, 97, 98, 99, 100, 101, 102, 103, 104, 105, 106, 107, 108, 109, 110, 111, 112, 113, 114, 115, 116, 117, 118, 119, 120, 121, 122, 48, 49, 50, 51, 52, 53, 54, 55, 56, 57, 43, 47] : List UInt8).getD (sixK b (6 * r) 6) 0 = sg (sixK b (6 * r) 6) := rfl
      repeat (first | refine SWp.seq ?_ | refine SWp.block ?_ | refine SWp.condT rfl ?_ | refine SWp.condF rfl ?_ | refine LoopAt.next ?_ | refine And.intro (by omega) ?_ | ((first | refine SWp.reg ?_ | refine SWp.skip ?_ | refine SWp.exit ?_ | refine SWp.ret ?_ | refine (fun h => h : AOps _ _ _ _ → AOps _ _ _ _) ?_); simp (disch := omega) only [wR0, wR1, wR2, wR3, wR4, wR5, wR6, wR7, undef, Prod.mk.injEq, Option.some.injEq, eq_self, UInt8.reduceToNat, Nat.reduceOr, Nat.reduceAnd, Nat.reduceXor, Nat.reduceDiv, if_pos, if_neg, aBin, aStr, aUn, aBeq, aPick, aCi, aIsnil, aStrId, aB2s, aS2b, aBound, aSls, aSl, aSla, aFaddr, partA, aFld, aIaddr, aIaddrA, aIdxS, aIdxA, aLoad, aExt, aNilc, aLenS, aLen, splice, aBuild, shA, allSh, aBslice, aBsl, allShW, elemsA, flatOk, aApp, aMks, aStore, aBox, aCopy, frz, frz.frzL, live, chunks, flat, esz, u8, AV.free, AV.free.freeL, AV.flat, AV.flat.flatL, boo, int, str, ↓reduceIte, ne_eq, reduceCtorEq, Int.reduceToNat, Nat.reduceEqDiff, Nat.reduceAdd, Nat.reduceSub, Nat.reduceMul, Int.reduceAdd, Int.reduceMul, Int.reduceSub, Int.reduceLT, Int.reduceLE, Int.reduceEq, Int.reduceNe, Nat.reduceLeDiff, Nat.reduceLT, Int.reduceNeg, Nat.reducePow, Nat.reduceMod, ByteArray.size, hsg, hlo]))
      refine At.of (r + 1, c, c + 1) (by simp only; omega) (by simp only; omega) rfl rfl (Nat.le_refl _) ?_ ?_
      · simp (disch := omega) only [wR0, wR1, wR2, wR3, wR4, wR5, wR6, wR7, undef, Prod.mk.injEq, Option.some.injEq, eq_self, UInt8.reduceToNat, Nat.reduceOr, Nat.reduceAnd, Nat.reduceXor, Nat.reduceDiv, if_pos, if_neg, aBin, aStr, aUn, aBeq, aPick, aCi, aIsnil, aStrId, aB2s, aS2b, aBound, aSls, aSl, aSla, aFaddr, partA, aFld, aIaddr, aIaddrA, aIdxS, aIdxA, aLoad, aExt, aNilc, aLenS, aLen, splice, aBuild, shA, allSh, aBslice, aBsl, allShW, elemsA, flatOk, aApp, aMks, aStore, aBox, aCopy, frz, frz.frzL, live, chunks, flat, esz, u8, AV.free, AV.free.freeL, AV.flat, AV.flat.flatL, boo, int, str, ↓reduceIte, ne_eq, reduceCtorEq, Int.reduceToNat, Nat.reduceEqDiff, Nat.reduceAdd, Nat.reduceSub, Nat.reduceMul, Int.reduceAdd, Int.reduceMul, Int.reduceSub, Int.reduceLT, Int.reduceLE, Int.reduceEq, Int.reduceNe, Nat.reduceLeDiff, Nat.reduceLT, Int.reduceNeg, Nat.reducePow, Nat.reduceMod, ByteArray.size]
        omega
      · simp (disch := omega) only [wR0, wR1, wR2, wR3, wR4, wR5, wR6, wR7, undef, Prod.mk.injEq, Option.some.injEq, eq_self, UInt8.reduceToNat, Nat.reduceOr, Nat.reduceAnd, Nat.reduceXor, Nat.reduceDiv, if_pos, if_neg, aBin, aStr, aUn, aBeq, aPick, aCi, aIsnil, aStrId, aB2s, aS2b, aBound, aSls, aSl, aSla, aFaddr, partA, aFld, aIaddr, aIaddrA, aIdxS, aIdxA, aLoad, aExt, aNilc, aLenS, aLen, splice, aBuild, shA, allSh, aBslice, aBsl, allShW, elemsA, flatOk, aApp, aMks, aStore, aBox, aCopy, frz, frz.frzL, live, chunks, flat, esz, u8, AV.free, AV.free.freeL, AV.flat, AV.flat.flatL, boo, int, str, ↓reduceIte, ne_eq, reduceCtorEq, Int.reduceToNat, Nat.reduceEqDiff, Nat.reduceAdd, Nat.reduceSub, Nat.reduceMul, Int.reduceAdd, Int.reduceMul, Int.reduceSub, Int.reduceLT, Int.reduceLE, Int.reduceEq, Int.reduceNe, Nat.reduceLeDiff, Nat.reduceLT, Int.reduceNeg, Nat.reducePow, Nat.reduceMod, ByteArray.size, outR, nl0_succ]
  · simp only [decide_eq_false_iff_not] at h
    obtain rfl : r = R := by omega
    have hp : padN r ≤ 3 := by unfold padN; omega
    repeat (first | refine SWp.seq ?_ | refine SWp.block ?_ | refine SWp.condT rfl ?_ | refine SWp.condF rfl ?_ | refine LoopAt.next ?_ | refine And.intro (by omega) ?_ | ((first | refine SWp.reg ?_ | refine SWp.skip ?_ | refine SWp.exit ?_ | refine SWp.ret ?_ | refine (fun h => h : AOps _ _ _ _ → AOps _ _ _ _) ?_); simp (disch := omega) only [wR0, wR1, wR2, wR3, wR4, wR5, wR6, wR7, undef, Prod.mk.injEq, Option.some.injEq, eq_self, UInt8.reduceToNat, Nat.reduceOr, Nat.reduceAnd, Nat.reduceXor, Nat.reduceDiv, if_pos, if_neg, aBin, aStr, aUn, aBeq, aPick, aCi, aIsnil, aStrId, aB2s, aS2b, aBound, aSls, aSl, aSla, aFaddr, partA, aFld, aIaddr, aIaddrA, aIdxS, aIdxA, aLoad, aExt, aNilc, aLenS, aLen, splice, aBuild, shA, allSh, aBslice, aBsl, allShW, elemsA, flatOk, aApp, aMks, aStore, aBox, aCopy, frz, frz.frzL, live, chunks, flat, esz, u8, AV.free, AV.free.freeL, AV.flat, AV.flat.flatL, boo, int, str, ↓reduceIte, ne_eq, reduceCtorEq, Int.reduceToNat, Nat.reduceEqDiff, Nat.reduceAdd, Nat.reduceSub, Nat.reduceMul, Int.reduceAdd, Int.reduceMul, Int.reduceSub, Int.reduceLT, Int.reduceLE, Int.reduceEq, Int.reduceNe, Nat.reduceLeDiff, Nat.reduceLT, Int.reduceNeg, Nat.reducePow, Nat.reduceMod, ByteArray.size]))
    refine SWp.loop (α := Nat × Nat × Nat) (fun x => mk 40 x.2.2 [(3, .own 3 x.2.1 none 0 (r + x.1))] [(3, x.2.1, .row (nl0 (r + x.1)) ((outR b r ++ List.replicate x.1 61).map u8))])
      (fun x => x.1 ≤ padN r) (fun x => padN r - x.1) (0, g, c) (Nat.zero_le _) (le_mk rfl ?_ ?_ ?_) ?_
    · exact Nat.le_refl _
    · simp (disch := omega) only [wR0, wR1, wR2, wR3, wR4, wR5, wR6, wR7, undef, Prod.mk.injEq, Option.some.injEq, eq_self, UInt8.reduceToNat, Nat.reduceOr, Nat.reduceAnd, Nat.reduceXor, Nat.reduceDiv, if_pos, if_neg, aBin, aStr, aUn, aBeq, aPick, aCi, aIsnil, aStrId, aB2s, aS2b, aBound, aSls, aSl, aSla, aFaddr, partA, aFld, aIaddr, aIaddrA, aIdxS, aIdxA, aLoad, aExt, aNilc, aLenS, aLen, splice, aBuild, shA, allSh, aBslice, aBsl, allShW, elemsA, flatOk, aApp, aMks, aStore, aBox, aCopy, frz, frz.frzL, live, chunks, flat, esz, u8, AV.free, AV.free.freeL, AV.flat, AV.flat.flatL, boo, int, str, ↓reduceIte, ne_eq, reduceCtorEq, Int.reduceToNat, Nat.reduceEqDiff, Nat.reduceAdd, Nat.reduceSub, Nat.reduceMul, Int.reduceAdd, Int.reduceMul, Int.reduceSub, Int.reduceLT, Int.reduceLE, Int.reduceEq, Int.reduceNe, Nat.reduceLeDiff, Nat.reduceLT, Int.reduceNeg, Nat.reducePow, Nat.reduceMod, ByteArray.size]
    · simp (disch := omega) only [wR0, wR1, wR2, wR3, wR4, wR5, wR6, wR7, undef, Prod.mk.injEq, Option.some.injEq, eq_self, UInt8.reduceToNat, Nat.reduceOr, Nat.reduceAnd, Nat.reduceXor, Nat.reduceDiv, if_pos, if_neg, aBin, aStr, aUn, aBeq, aPick, aCi, aIsnil, aStrId, aB2s, aS2b, aBound, aSls, aSl, aSla, aFaddr, partA, aFld, aIaddr, aIaddrA, aIdxS, aIdxA, aLoad, aExt, aNilc, aLenS, aLen, splice, aBuild, shA, allSh, aBslice, aBsl, allShW, elemsA, flatOk, aApp, aMks, aStore, aBox, aCopy, frz, frz.frzL, live, chunks, flat, esz, u8, AV.free, AV.free.freeL, AV.flat, AV.flat.flatL, boo, int, str, ↓reduceIte, ne_eq, reduceCtorEq, Int.reduceToNat, Nat.reduceEqDiff, Nat.reduceAdd, Nat.reduceSub, Nat.reduceMul, Int.reduceAdd, Int.reduceMul, Int.reduceSub, Int.reduceLT, Int.reduceLE, Int.reduceEq, Int.reduceNe, Nat.reduceLeDiff, Nat.reduceLT, Int.reduceNeg, Nat.reducePow, Nat.reduceMod, ByteArray.size]
    rintro ⟨p, g', c'⟩ hpp -
    simp only at hpp
    have hlp : (outR b r ++ List.replicate p 61).length = r + p := by rw [List.length_append, hlo, List.length_replicate]
    obtain ⟨o, ho⟩ : ∃ o, o = outR b r ++ List.replicate p 61 := ⟨_, rfl⟩
    have ho2 : outR b r ++ List.replicate (p + 1) 61 = o ++ [61] := by rw [ho, List.replicate_succ', List.append_assoc]
    rw [← ho] at hlp
    simp only [← ho]
    have hm : ((r : Int) + (p : Int)).tmod 4 = (((r + p) % 4 : Nat) : Int) := by rw [Int.tmod_eq_emod_of_nonneg (by omega)]; omega
    by_cases c4 : (((r + p) % 4 : Nat) : Int) = 0
    · have d4 := decide_eq_true c4
      have hpe : p = padN r := by unfold padN at hpp ⊢; omega
      have hf : refB64 b = o := by unfold refB64; rw [← hR, ho, hpe]
      repeat (first | refine SWp.seq ?_ | refine SWp.block ?_ | refine SWp.condT rfl ?_ | refine SWp.condF rfl ?_ | refine LoopAt.next ?_ | refine And.intro (by omega) ?_ | ((first | refine SWp.reg ?_ | refine SWp.skip ?_ | refine SWp.exit ?_ | refine SWp.ret ?_ | refine (fun h => h : AOps _ _ _ _ → AOps _ _ _ _) ?_); simp (disch := omega) only [wR0, wR1, wR2, wR3, wR4, wR5, wR6, wR7, undef, Prod.mk.injEq, Option.some.injEq, eq_self, UInt8.reduceToNat, Nat.reduceOr, Nat.reduceAnd, Nat.reduceXor, Nat.reduceDiv, if_pos, if_neg, aBin, aStr, aUn, aBeq, aPick, aCi, aIsnil, aStrId, aB2s, aS2b, aBound, aSls, aSl, aSla, aFaddr, partA, aFld, aIaddr, aIaddrA, aIdxS, aIdxA, aLoad, aExt, aNilc, aLenS, aLen, splice, aBuild, shA, allSh, aBslice, aBsl, allShW, elemsA, flatOk, aApp, aMks, aStore, aBox, aCopy, frz, frz.frzL, live, chunks, flat, esz, u8, AV.free, AV.free.freeL, AV.flat, AV.flat.flatL, boo, int, str, ↓reduceIte, ne_eq, reduceCtorEq, Int.reduceToNat, Nat.reduceEqDiff, Nat.reduceAdd, Nat.reduceSub, Nat.reduceMul, Int.reduceAdd, Int.reduceMul, Int.reduceSub, Int.reduceLT, Int.reduceLE, Int.reduceEq, Int.reduceNe, Nat.reduceLeDiff, Nat.reduceLT, Int.reduceNeg, Nat.reducePow, Nat.reduceMod, ByteArray.size, hm, d4, hlp, hf, List.take_of_length_le]))
    · have d4 := decide_eq_false c4
      have hpl : p < padN r := by
        rcases Nat.lt_or_ge p (padN r) with h' | h'
        · exact h'
        · exfalso
          have : p = padN r := by omega
          unfold padN at this; omega
      have hnl : nl0 (r + (p + 1)) = false := nl0_pos (by omega)
      repeat (first | refine SWp.seq ?_ | refine SWp.block ?_ | refine SWp.condT rfl ?_ | refine SWp.condF rfl ?_ | refine LoopAt.next ?_ | refine And.intro (by omega) ?_ | ((first | refine SWp.reg ?_ | refine SWp.skip ?_ | refine SWp.exit ?_ | refine SWp.ret ?_ | refine (fun h => h : AOps _ _ _ _ → AOps _ _ _ _) ?_); simp (disch := omega) only [wR0, wR1, wR2, wR3, wR4, wR5, wR6, wR7, undef, Prod.mk.injEq, Option.some.injEq, eq_self, UInt8.reduceToNat, Nat.reduceOr, Nat.reduceAnd, Nat.reduceXor, Nat.reduceDiv, if_pos, if_neg, aBin, aStr, aUn, aBeq, aPick, aCi, aIsnil, aStrId, aB2s, aS2b, aBound, aSls, aSl, aSla, aFaddr, partA, aFld, aIaddr, aIaddrA, aIdxS, aIdxA, aLoad, aExt, aNilc, aLenS, aLen, splice, aBuild, shA, allSh, aBslice, aBsl, allShW, elemsA, flatOk, aApp, aMks, aStore, aBox, aCopy, frz, frz.frzL, live, chunks, flat, esz, u8, AV.free, AV.free.freeL, AV.flat, AV.flat.flatL, boo, int, str, ↓reduceIte, ne_eq, reduceCtorEq, Int.reduceToNat, Nat.reduceEqDiff, Nat.reduceAdd, Nat.reduceSub, Nat.reduceMul, Int.reduceAdd, Int.reduceMul, Int.reduceSub, Int.reduceLT, Int.reduceLE, Int.reduceEq, Int.reduceNe, Nat.reduceLeDiff, Nat.reduceLT, Int.reduceNeg, Nat.reducePow, Nat.reduceMod, ByteArray.size, hm, d4, hlp]))
      refine At.of (p + 1, c', c' + 1) (by simp only; omega) (by simp only; omega) rfl rfl (Nat.le_refl _) ?_ ?_
      · simp (disch := omega) only [wR0, wR1, wR2, wR3, wR4, wR5, wR6, wR7, undef, Prod.mk.injEq, Option.some.injEq, eq_self, UInt8.reduceToNat, Nat.reduceOr, Nat.reduceAnd, Nat.reduceXor, Nat.reduceDiv, if_pos, if_neg, aBin, aStr, aUn, aBeq, aPick, aCi, aIsnil, aStrId, aB2s, aS2b, aBound, aSls, aSl, aSla, aFaddr, partA, aFld, aIaddr, aIaddrA, aIdxS, aIdxA, aLoad, aExt, aNilc, aLenS, aLen, splice, aBuild, shA, allSh, aBslice, aBsl, allShW, elemsA, flatOk, aApp, aMks, aStore, aBox, aCopy, frz, frz.frzL, live, chunks, flat, esz, u8, AV.free, AV.free.freeL, AV.flat, AV.flat.flatL, boo, int, str, ↓reduceIte, ne_eq, reduceCtorEq, Int.reduceToNat, Nat.reduceEqDiff, Nat.reduceAdd, Nat.reduceSub, Nat.reduceMul, Int.reduceAdd, Int.reduceMul, Int.reduceSub, Int.reduceLT, Int.reduceLE, Int.reduceEq, Int.reduceNe, Nat.reduceLeDiff, Nat.reduceLT, Int.reduceNeg, Nat.reducePow, Nat.reduceMod, ByteArray.size]
        omega
      · simp (disch := omega) only [wR0, wR1, wR2, wR3, wR4, wR5, wR6, wR7, undef, Prod.mk.injEq, Option.some.injEq, eq_self, UInt8.reduceToNat, Nat.reduceOr, Nat.reduceAnd, Nat.reduceXor, Nat.reduceDiv, if_pos, if_neg, aBin, aStr, aUn, aBeq, aPick, aCi, aIsnil, aStrId, aB2s, aS2b, aBound, aSls, aSl, aSla, aFaddr, partA, aFld, aIaddr, aIaddrA, aIdxS, aIdxA, aLoad, aExt, aNilc, aLenS, aLen, splice, aBuild, shA, allSh, aBslice, aBsl, allShW, elemsA, flatOk, aApp, aMks, aStore, aBox, aCopy, frz, frz.frzL, live, chunks, flat, esz, u8, AV.free, AV.free.freeL, AV.flat, AV.flat.flatL, boo, int, str, ↓reduceIte, ne_eq, reduceCtorEq, Int.reduceToNat, Nat.reduceEqDiff, Nat.reduceAdd, Nat.reduceSub, Nat.reduceMul, Int.reduceAdd, Int.reduceMul, Int.reduceSub, Int.reduceLT, Int.reduceLE, Int.reduceEq, Int.reduceNe, Nat.reduceLeDiff, Nat.reduceLT, Int.reduceNeg, Nat.reducePow, Nat.reduceMod, ByteArray.size, hnl]
        rw [← List.map_append, ho2, List.map_append]
        rfl
end Go.Proofs.YtdkghcfbhpemfaaDoor.Aw
