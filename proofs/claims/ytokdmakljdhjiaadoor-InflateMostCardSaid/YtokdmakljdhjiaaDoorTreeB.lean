/- Contracts: (*Tree).begins, Next. -/
import Derived.Test.YtokdmakljdhjiaaDoorTreeA
namespace Go.Proofs.YtokdmakljdhjiaaDoor.Aw
open Go
set_option linter.unusedSimpArgs false
set_option linter.unusedVariables false

theorem length_symsF {l : List Nat} {n : Nat} : (syms l l.length n).length = cn l n := by
  rw [length_syms (Nat.le_refl _), List.take_length]; rfl
theorem length_trR {l : List Nat} : (trR l).length = 33 := by simp [trR, length_r16]
theorem trR_fr {l : List Nat} {n : Nat} (h : n < 16) : (trR l).getD n .junk = .sc (.int .i64 ((fr l n : Nat) : Int)) := by
  unfold trR
  rw [List.append_assoc]
  simp only [List.getD]
  rw [List.getElem?_append_left (by simp [length_r16]; exact h)]
  simp [r16, h, nA]
theorem trR_sym {l : List Nat} {n : Nat} (h : n < 16) : (trR l).getD (16 + n) .junk = .sl (nl0 (cn l n)) none ((syms l l.length n).map nA) := by
  unfold trR
  simp only [List.getD]
  rw [List.getElem?_append_left (by simp [length_r16]; omega), List.getElem?_append_right (by simp [length_r16])]
  simp [length_r16, h, length_symsF]
theorem trR_last {l : List Nat} : (trR l).getD 32 .junk = .sc (.int .i64 ((kraft l : Nat) : Int)) := by
  unfold trR
  simp only [List.getD]
  rw [List.getElem?_append_right (by simp [length_r16])]
  simp [length_r16]
theorem free_trR {l : List Nat} : AV.free.freeL (trR l) = true := by
  unfold trR
  rw [free_append, free_append, free_nA]
  have : AV.free.freeL ((List.range 16).map (fun n => AV.sl (nl0 (syms l l.length n).length) none ((syms l l.length n).map nA))) = true := freeL_iff.2 fun x hx => by
    obtain ⟨n, _, rfl⟩ := List.mem_map.1 hx
    simp only [AV.free, free_nA]
  rw [this]; rfl

theorem huff_begins_c [Tabs Tryd.prog] (l : List Nat) (hK : kraft l ≤ 32768) (v n : Nat) (hv : v < 65536) (hn : n ≤ 15) : Con Tryd.prog n_huff_Tree_begins [.fp (.agg (trR l)) 0, .sc (.int .i64 (v : Int)), .sc (.int .i64 (n : Int))] (boo (decide (v * 2 ^ (15 - n) < kraft l))) := by
  refine Con.of' mix Tryd.func56 rfl Tryd.ntmps56 e_huff_Tree_begins r_huff_Tree_begins (by simp) (by simp only [AV.free, AV.free.freeL, free_trR, Bool.and_self]) rfl ?_
  unfold s_huff_Tree_begins
  have e1 : (15 : Int) - (n : Int) = ((15 - n : Nat) : Int) := by omega
  have hp : 2 ^ (15 - n) ≤ 32768 := two_pow_le (n := 15 - n) (m := 15) (by omega)
  obtain ⟨j, hj⟩ : ∃ j, j = 15 - n := ⟨_, rfl⟩
  rw [← hj] at hp e1 ⊢
  have hj15 : j ≤ 15 := by omega
  have hz : v * 2 ^ j ≤ 65536 * 32768 := Nat.mul_le_mul (by omega) hp
  obtain ⟨z, hzz⟩ : ∃ z, z = v * 2 ^ j := ⟨_, rfl⟩
  rw [← hzz] at hz ⊢
  have hd : decide ((z : Int) < ((kraft l : Nat) : Int)) = decide (z < kraft l) := decide_eq_decide.2 (by omega)
  repeat (first | refine SWp.seq ?_ | refine SWp.block ?_ | refine SWp.condT rfl ?_ | refine SWp.condF rfl ?_ | refine LoopAt.next ?_ | refine And.intro (by omega) ?_ | ((first | refine SWp.reg ?_ | refine SWp.skip ?_ | refine SWp.exit ?_ | refine SWp.ret ?_ | refine (fun h => h : AOps _ _ _ _ → AOps _ _ _ _) ?_); simp (disch := omega) only [wP, wZ, undef, eq_self, UInt8.reduceToNat, Nat.reduceOr, Nat.reduceAnd, Nat.reduceXor, Nat.reduceDiv, if_pos, if_neg, aStore, frz, AV.flat, ↓reduceIte, ne_eq, reduceCtorEq, Int.reduceToNat, Nat.reduceEqDiff, Nat.reduceAdd, Nat.reduceSub, Nat.reduceMul, Int.reduceAdd, Int.reduceMul, Int.reduceSub, Int.reduceLT, Int.reduceLE, Int.reduceEq, Int.reduceNe, Nat.reduceLeDiff, Nat.reduceLT, Int.reduceNeg, Nat.reducePow, Nat.reduceMod, ByteArray.size, e1, ← hzz, length_trR, trR_last, hd]))

/-- What stands at a row of bits: the symbol, how many bits were read, what is wrong. f: how many bits may still be read; n: how many were; v: their number. -/
def nxt (l B : List Nat) : Nat → Nat → Nat → Nat × Nat × Nat
  | 0, n, _ => (0, n, 3)
  | f + 1, n, v =>
    if B.length ≤ n then (0, n, 2) else
    if kraft l ≤ (2 * v + B.getD n 0) * 2 ^ (15 - (n + 1)) then (0, n + 1, 3) else
    if 2 * v + B.getD n 0 - fr l (n + 1) < cn l (n + 1) then ((syms l l.length (n + 1)).getD (2 * v + B.getD n 0 - fr l (n + 1)) 0, n + 1, 0) else
    nxt l B f (n + 1) (2 * v + B.getD n 0)

set_option maxHeartbeats 1000000 in
set_option maxRecDepth 100000 in
theorem huff_Next_h [Tabs Tryd.prog] (l : List Nat) (hl : l.length ≤ 320) (hK : kraft l ≤ 32768) (nl : Bool) (b : List UInt8) (hb : b.length ≤ 1000000) (i : Nat) (hi : i ≤ 8 * b.length) (r : Nat × Nat × Nat) (hr : nxt l ((bitsL b).drop i) 15 0 0 = r) :
    HCon Tryd.prog n_huff_Tree_Next [.fp (.agg (trR l)) 0, .op 1000 0 0] [.row false (rdR nl b i)] (.tup [.sc (.int .i64 (r.1 : Int)), .sc (.int .i64 (r.2.2 : Int))]) [(1000, 0, .row false (rdR nl b (i + r.2.1)))] 100 := by
  refine HCon.of' mix Tryd.func41 rfl Tryd.ntmps41 e_huff_Tree_Next r_huff_Tree_Next (by simp) (by simp only [AV.gl.glL, AV.gl, and_true]; exact ⟨glL_of_free _ _ free_trR, by omega⟩) rd_gl ?_
  unfold s_huff_Tree_Next
  repeat (first | refine SWp.seq ?_ | refine SWp.block ?_ | refine SWp.condT rfl ?_ | refine SWp.condF rfl ?_ | refine LoopAt.next ?_ | refine And.intro (by omega) ?_ | ((first | refine SWp.reg ?_ | refine SWp.skip ?_ | refine SWp.exit ?_ | refine SWp.ret ?_ | refine (fun h => h : AOps _ _ _ _ → AOps _ _ _ _) ?_); simp (disch := omega) only [wP, wZ, undef, eq_self, UInt8.reduceToNat, Nat.reduceOr, Nat.reduceAnd, Nat.reduceXor, Nat.reduceDiv, if_pos, if_neg, aStore, frz, AV.flat, ↓reduceIte, ne_eq, reduceCtorEq, Int.reduceToNat, Nat.reduceEqDiff, Nat.reduceAdd, Nat.reduceSub, Nat.reduceMul, Int.reduceAdd, Int.reduceMul, Int.reduceSub, Int.reduceLT, Int.reduceLE, Int.reduceEq, Int.reduceNe, Nat.reduceLeDiff, Nat.reduceLT, Int.reduceNeg, Nat.reducePow, Nat.reduceMod, ByteArray.size]))
  refine SWp.loop (α := Nat × Nat) (fun x => mk 55 (1 + 3 * x.1) [(0, .fp (.agg (trR l)) 0), (1, .op 1000 0 0), (6, int (x.2 : Nat)), (10, int x.1)] [(1000, 0, .row false (rdR nl b (i + x.1)))])
    (fun x => x.1 ≤ 15 ∧ i + x.1 ≤ 8 * b.length ∧ x.2 < 2 ^ x.1 ∧ fr l (x.1 + 1) ≤ 2 * x.2 ∧ nxt l ((bitsL b).drop i) (15 - x.1) x.1 x.2 = r) (fun x => 15 - x.1) (0, 0) ⟨Nat.zero_le _, hi, by decide, by simp [fr, cn], hr⟩ (le_mk rfl ?_ ?_ ?_) ?_
  · exact Nat.le_refl _
  iterate 2 (case _ => simp (disch := omega) only [wP, wZ, undef, eq_self, UInt8.reduceToNat, Nat.reduceOr, Nat.reduceAnd, Nat.reduceXor, Nat.reduceDiv, if_pos, if_neg, aStore, frz, AV.flat, ↓reduceIte, ne_eq, reduceCtorEq, Int.reduceToNat, Nat.reduceEqDiff, Nat.reduceAdd, Nat.reduceSub, Nat.reduceMul, Int.reduceAdd, Int.reduceMul, Int.reduceSub, Int.reduceLT, Int.reduceLE, Int.reduceEq, Int.reduceNe, Nat.reduceLeDiff, Nat.reduceLT, Int.reduceNeg, Nat.reducePow, Nat.reduceMod, ByteArray.size])
  rintro ⟨n, v⟩ ⟨hn, hin, hv, hF, hx⟩ -
  simp only at hn hin hv hF hx
  repeat (first | refine SWp.seq ?_ | refine SWp.block ?_ | refine SWp.condT rfl ?_ | refine SWp.condF rfl ?_ | refine LoopAt.next ?_ | refine And.intro (by omega) ?_ | ((first | refine SWp.reg ?_ | refine SWp.skip ?_ | refine SWp.exit ?_ | refine SWp.ret ?_ | refine (fun h => h : AOps _ _ _ _ → AOps _ _ _ _) ?_); simp (disch := omega) only [wP, wZ, undef, eq_self, UInt8.reduceToNat, Nat.reduceOr, Nat.reduceAnd, Nat.reduceXor, Nat.reduceDiv, if_pos, if_neg, aStore, frz, AV.flat, ↓reduceIte, ne_eq, reduceCtorEq, Int.reduceToNat, Nat.reduceEqDiff, Nat.reduceAdd, Nat.reduceSub, Nat.reduceMul, Int.reduceAdd, Int.reduceMul, Int.reduceSub, Int.reduceLT, Int.reduceLE, Int.reduceEq, Int.reduceNe, Nat.reduceLeDiff, Nat.reduceLT, Int.reduceNeg, Nat.reducePow, Nat.reduceMod, ByteArray.size]))
  refine SWp.cond rfl (fun h => ?_) (fun h => ?_)
  · simp only [decide_eq_true_eq] at h
    have hn15 : n < 15 := by omega
    obtain ⟨f, hf⟩ : ∃ f, 15 - n = f + 1 := ⟨14 - n, by omega⟩
    have hBl : ((bitsL b).drop i).length = 8 * b.length - i := by rw [List.length_drop, length_bitsL]
    rw [hf, nxt, hBl] at hx
    have hleft := huff_left_h nl b hb (i + n) hin
    by_cases c0 : 8 * b.length - i ≤ n
    · rw [if_pos c0] at hx
      have d0 : decide (((8 * b.length - (i + n) : Nat) : Int) = 0) = true := decide_eq_true (by omega)
      subst hx
      repeat (first | refine SWp.seq ?_ | refine SWp.block ?_ | refine SWp.condT rfl ?_ | refine SWp.condF rfl ?_ | refine LoopAt.next ?_ | refine And.intro (by omega) ?_ | ((first | refine SWp.reg ?_ | refine SWp.skip ?_ | refine SWp.exit ?_ | refine SWp.ret ?_ | refine (fun h => h : AOps _ _ _ _ → AOps _ _ _ _) ?_); simp (disch := omega) only [wP, wZ, undef, eq_self, UInt8.reduceToNat, Nat.reduceOr, Nat.reduceAnd, Nat.reduceXor, Nat.reduceDiv, if_pos, if_neg, aStore, frz, AV.flat, ↓reduceIte, ne_eq, reduceCtorEq, Int.reduceToNat, Nat.reduceEqDiff, Nat.reduceAdd, Nat.reduceSub, Nat.reduceMul, Int.reduceAdd, Int.reduceMul, Int.reduceSub, Int.reduceLT, Int.reduceLE, Int.reduceEq, Int.reduceNe, Nat.reduceLeDiff, Nat.reduceLT, Int.reduceNeg, Nat.reducePow, Nat.reduceMod, ByteArray.size]))
      refine goC_h [(1000, 0)] 2000 hleft (by simp) (by simp) ?_ ?_ ?_
      iterate 2 (case _ => simp (disch := omega) only [wP, wZ, undef, eq_self, UInt8.reduceToNat, Nat.reduceOr, Nat.reduceAnd, Nat.reduceXor, Nat.reduceDiv, if_pos, if_neg, aStore, frz, AV.flat, ↓reduceIte, ne_eq, reduceCtorEq, Int.reduceToNat, Nat.reduceEqDiff, Nat.reduceAdd, Nat.reduceSub, Nat.reduceMul, Int.reduceAdd, Int.reduceMul, Int.reduceSub, Int.reduceLT, Int.reduceLE, Int.reduceEq, Int.reduceNe, Nat.reduceLeDiff, Nat.reduceLT, Int.reduceNeg, Nat.reducePow, Nat.reduceMod, ByteArray.size, rdR])
      repeat (first | refine SWp.seq ?_ | refine SWp.block ?_ | refine SWp.condT rfl ?_ | refine SWp.condF rfl ?_ | refine LoopAt.next ?_ | refine And.intro (by omega) ?_ | ((first | refine SWp.reg ?_ | refine SWp.skip ?_ | refine SWp.exit ?_ | refine SWp.ret ?_ | refine (fun h => h : AOps _ _ _ _ → AOps _ _ _ _) ?_); simp (disch := omega) only [wP, wZ, undef, eq_self, UInt8.reduceToNat, Nat.reduceOr, Nat.reduceAnd, Nat.reduceXor, Nat.reduceDiv, if_pos, if_neg, aStore, frz, AV.flat, ↓reduceIte, ne_eq, reduceCtorEq, Int.reduceToNat, Nat.reduceEqDiff, Nat.reduceAdd, Nat.reduceSub, Nat.reduceMul, Int.reduceAdd, Int.reduceMul, Int.reduceSub, Int.reduceLT, Int.reduceLE, Int.reduceEq, Int.reduceNe, Nat.reduceLeDiff, Nat.reduceLT, Int.reduceNeg, Nat.reducePow, Nat.reduceMod, ByteArray.size, d0, rdR, iR]))
      omega
    · rw [if_neg c0] at hx
      have d0 : decide (((8 * b.length - (i + n) : Nat) : Int) = 0) = false := decide_eq_false (by omega)
      have hbd : ((bitsL b).drop i).getD n 0 = bitAt b (i + n) := by
        rw [← bitsL_get (by omega)]
        simp [List.getD]
      rw [hbd] at hx
      have hbit := huff_bit_h nl b hb (i + n) (by omega)
      have hbl := bitAt_lt (l := b) (i := i + n)
      obtain ⟨x, hxx⟩ : ∃ x, x = bitAt b (i + n) := ⟨_, rfl⟩
      rw [← hxx] at hx hbit hbl
      have hp : 2 ^ n ≤ 16384 := two_pow_le (n := n) (m := 14) (by omega)
      have hp2 : 2 ^ (n + 1) = 2 * 2 ^ n := by rw [Nat.pow_succ]; omega
      obtain ⟨w, hw⟩ : ∃ w, w = 2 * v + x := ⟨_, rfl⟩
      have hor : v * 2 ||| x = w := by
        have := Nat.two_pow_add_eq_or_of_lt (i := 1) (b := x) (by omega) v
        rw [Nat.pow_one] at this
        rw [hw, Nat.mul_comm v 2]; omega
      have hwl : w < 2 ^ (n + 1) := by omega
      have hwl2 : w < 32768 := by omega
      rw [← hw] at hx
      have hbeg := huff_begins_c l hK w (n + 1) (by omega) (by omega)
      have hfw : fr l (n + 1) ≤ w := by omega
      have hfl := fr_lt hl (n := n + 1) (by omega)
      repeat (first | refine SWp.seq ?_ | refine SWp.block ?_ | refine SWp.condT rfl ?_ | refine SWp.condF rfl ?_ | refine LoopAt.next ?_ | refine And.intro (by omega) ?_ | ((first | refine SWp.reg ?_ | refine SWp.skip ?_ | refine SWp.exit ?_ | refine SWp.ret ?_ | refine (fun h => h : AOps _ _ _ _ → AOps _ _ _ _) ?_); simp (disch := omega) only [wP, wZ, undef, eq_self, UInt8.reduceToNat, Nat.reduceOr, Nat.reduceAnd, Nat.reduceXor, Nat.reduceDiv, if_pos, if_neg, aStore, frz, AV.flat, ↓reduceIte, ne_eq, reduceCtorEq, Int.reduceToNat, Nat.reduceEqDiff, Nat.reduceAdd, Nat.reduceSub, Nat.reduceMul, Int.reduceAdd, Int.reduceMul, Int.reduceSub, Int.reduceLT, Int.reduceLE, Int.reduceEq, Int.reduceNe, Nat.reduceLeDiff, Nat.reduceLT, Int.reduceNeg, Nat.reducePow, Nat.reduceMod, ByteArray.size]))
      refine goC_h [(1000, 0)] 2000 hleft (by simp) (by simp) ?_ ?_ ?_
      iterate 2 (case _ => simp (disch := omega) only [wP, wZ, undef, eq_self, UInt8.reduceToNat, Nat.reduceOr, Nat.reduceAnd, Nat.reduceXor, Nat.reduceDiv, if_pos, if_neg, aStore, frz, AV.flat, ↓reduceIte, ne_eq, reduceCtorEq, Int.reduceToNat, Nat.reduceEqDiff, Nat.reduceAdd, Nat.reduceSub, Nat.reduceMul, Int.reduceAdd, Int.reduceMul, Int.reduceSub, Int.reduceLT, Int.reduceLE, Int.reduceEq, Int.reduceNe, Nat.reduceLeDiff, Nat.reduceLT, Int.reduceNeg, Nat.reducePow, Nat.reduceMod, ByteArray.size, rdR])
      repeat (first | refine SWp.seq ?_ | refine SWp.block ?_ | refine SWp.condT rfl ?_ | refine SWp.condF rfl ?_ | refine LoopAt.next ?_ | refine And.intro (by omega) ?_ | ((first | refine SWp.reg ?_ | refine SWp.skip ?_ | refine SWp.exit ?_ | refine SWp.ret ?_ | refine (fun h => h : AOps _ _ _ _ → AOps _ _ _ _) ?_); simp (disch := omega) only [wP, wZ, undef, eq_self, UInt8.reduceToNat, Nat.reduceOr, Nat.reduceAnd, Nat.reduceXor, Nat.reduceDiv, if_pos, if_neg, aStore, frz, AV.flat, ↓reduceIte, ne_eq, reduceCtorEq, Int.reduceToNat, Nat.reduceEqDiff, Nat.reduceAdd, Nat.reduceSub, Nat.reduceMul, Int.reduceAdd, Int.reduceMul, Int.reduceSub, Int.reduceLT, Int.reduceLE, Int.reduceEq, Int.reduceNe, Nat.reduceLeDiff, Nat.reduceLT, Int.reduceNeg, Nat.reducePow, Nat.reduceMod, ByteArray.size, d0, rdR, iR]))
      refine goC_h [(1000, 0)] 3000 hbit (by simp) (by simp) ?_ ?_ ?_
      iterate 2 (case _ => simp (disch := omega) only [wP, wZ, undef, eq_self, UInt8.reduceToNat, Nat.reduceOr, Nat.reduceAnd, Nat.reduceXor, Nat.reduceDiv, if_pos, if_neg, aStore, frz, AV.flat, ↓reduceIte, ne_eq, reduceCtorEq, Int.reduceToNat, Nat.reduceEqDiff, Nat.reduceAdd, Nat.reduceSub, Nat.reduceMul, Int.reduceAdd, Int.reduceMul, Int.reduceSub, Int.reduceLT, Int.reduceLE, Int.reduceEq, Int.reduceNe, Nat.reduceLeDiff, Nat.reduceLT, Int.reduceNeg, Nat.reducePow, Nat.reduceMod, ByteArray.size, rdR])
      repeat (first | refine SWp.seq ?_ | refine SWp.block ?_ | refine SWp.condT rfl ?_ | refine SWp.condF rfl ?_ | refine LoopAt.next ?_ | refine And.intro (by omega) ?_ | ((first | refine SWp.reg ?_ | refine SWp.skip ?_ | refine SWp.exit ?_ | refine SWp.ret ?_ | refine (fun h => h : AOps _ _ _ _ → AOps _ _ _ _) ?_); simp (disch := omega) only [wP, wZ, undef, eq_self, UInt8.reduceToNat, Nat.reduceOr, Nat.reduceAnd, Nat.reduceXor, Nat.reduceDiv, if_pos, if_neg, aStore, frz, AV.flat, ↓reduceIte, ne_eq, reduceCtorEq, Int.reduceToNat, Nat.reduceEqDiff, Nat.reduceAdd, Nat.reduceSub, Nat.reduceMul, Int.reduceAdd, Int.reduceMul, Int.reduceSub, Int.reduceLT, Int.reduceLE, Int.reduceEq, Int.reduceNe, Nat.reduceLeDiff, Nat.reduceLT, Int.reduceNeg, Nat.reducePow, Nat.reduceMod, ByteArray.size, rdR, iR, Nat.pow_one, hor]))
      by_cases c1 : kraft l ≤ w * 2 ^ (15 - (n + 1))
      · rw [if_pos c1] at hx
        have dz : decide (w * 2 ^ (15 - (n + 1)) < kraft l) = false := decide_eq_false (by omega)
        rw [dz] at hbeg
        subst hx
        refine goC_p _ (.inl ⟨by simp only [AV.free, AV.free.freeL, free_trR, Bool.and_self], hbeg⟩) ?_
        repeat (first | refine SWp.seq ?_ | refine SWp.block ?_ | refine SWp.condT rfl ?_ | refine SWp.condF rfl ?_ | refine LoopAt.next ?_ | refine And.intro (by omega) ?_ | ((first | refine SWp.reg ?_ | refine SWp.skip ?_ | refine SWp.exit ?_ | refine SWp.ret ?_ | refine (fun h => h : AOps _ _ _ _ → AOps _ _ _ _) ?_); simp (disch := omega) only [wP, wZ, undef, eq_self, UInt8.reduceToNat, Nat.reduceOr, Nat.reduceAnd, Nat.reduceXor, Nat.reduceDiv, if_pos, if_neg, aStore, frz, AV.flat, ↓reduceIte, ne_eq, reduceCtorEq, Int.reduceToNat, Nat.reduceEqDiff, Nat.reduceAdd, Nat.reduceSub, Nat.reduceMul, Int.reduceAdd, Int.reduceMul, Int.reduceSub, Int.reduceLT, Int.reduceLE, Int.reduceEq, Int.reduceNe, Nat.reduceLeDiff, Nat.reduceLT, Int.reduceNeg, Nat.reducePow, Nat.reduceMod, ByteArray.size, rdR, iR]))
        refine ⟨?_, by omega⟩
        rw [Int.add_assoc]
      · rw [if_neg c1] at hx
        have dz : decide (w * 2 ^ (15 - (n + 1)) < kraft l) = true := decide_eq_true (by omega)
        rw [dz] at hbeg
        obtain ⟨F, hFd⟩ : ∃ F, F = fr l (n + 1) := ⟨_, rfl⟩
        have hgF := trR_fr (l := l) (n := n + 1) (by omega)
        have hgS := trR_sym (l := l) (n := n + 1) (by omega)
        have hlS := length_symsF (l := l) (n := n + 1)
        have hcl := cn_le (l := l) (n := n + 1)
        rw [← hFd] at hgF hfw hfl hx
        have hsub : (w : Int) - (F : Int) = ((w - F : Nat) : Int) := by omega
        obtain ⟨S, hS⟩ : ∃ S, S = syms l l.length (n + 1) := ⟨_, rfl⟩
        obtain ⟨c, hc⟩ : ∃ c, c = cn l (n + 1) := ⟨_, rfl⟩
        rw [← hS] at hgS hlS hx
        rw [← hc] at hgS hlS hcl hx
        obtain ⟨j, hj⟩ : ∃ j, j = w - F := ⟨_, rfl⟩
        rw [← hj] at hsub hx
        refine goC_p _ (.inl ⟨by simp only [AV.free, AV.free.freeL, free_trR, Bool.and_self], hbeg⟩) ?_
        by_cases c2 : j < c
        · rw [if_pos c2] at hx
          have d2 : decide ((j : Int) < (c : Int)) = true := decide_eq_true (by omega)
          subst hx
          repeat (first | refine SWp.seq ?_ | refine SWp.block ?_ | refine SWp.condT rfl ?_ | refine SWp.condF rfl ?_ | refine LoopAt.next ?_ | refine And.intro (by omega) ?_ | ((first | refine SWp.reg ?_ | refine SWp.skip ?_ | refine SWp.exit ?_ | refine SWp.ret ?_ | refine (fun h => h : AOps _ _ _ _ → AOps _ _ _ _) ?_); simp (disch := omega) only [wP, wZ, undef, eq_self, UInt8.reduceToNat, Nat.reduceOr, Nat.reduceAnd, Nat.reduceXor, Nat.reduceDiv, if_pos, if_neg, aStore, frz, AV.flat, ↓reduceIte, ne_eq, reduceCtorEq, Int.reduceToNat, Nat.reduceEqDiff, Nat.reduceAdd, Nat.reduceSub, Nat.reduceMul, Int.reduceAdd, Int.reduceMul, Int.reduceSub, Int.reduceLT, Int.reduceLE, Int.reduceEq, Int.reduceNe, Nat.reduceLeDiff, Nat.reduceLT, Int.reduceNeg, Nat.reducePow, Nat.reduceMod, ByteArray.size, rdR, iR, length_trR, hgF, hgS, hlS, hsub, d2]))
          refine ⟨?_, by omega⟩
          rw [Int.add_assoc]
        · rw [if_neg c2] at hx
          have d2 : decide ((j : Int) < (c : Int)) = false := decide_eq_false (by omega)
          have hnx : fr l (n + 1 + 1) ≤ 2 * w := by
            rw [fr, ← hFd, ← hc]; omega
          repeat (first | refine SWp.seq ?_ | refine SWp.block ?_ | refine SWp.condT rfl ?_ | refine SWp.condF rfl ?_ | refine LoopAt.next ?_ | refine And.intro (by omega) ?_ | ((first | refine SWp.reg ?_ | refine SWp.skip ?_ | refine SWp.exit ?_ | refine SWp.ret ?_ | refine (fun h => h : AOps _ _ _ _ → AOps _ _ _ _) ?_); simp (disch := omega) only [wP, wZ, undef, eq_self, UInt8.reduceToNat, Nat.reduceOr, Nat.reduceAnd, Nat.reduceXor, Nat.reduceDiv, if_pos, if_neg, aStore, frz, AV.flat, ↓reduceIte, ne_eq, reduceCtorEq, Int.reduceToNat, Nat.reduceEqDiff, Nat.reduceAdd, Nat.reduceSub, Nat.reduceMul, Int.reduceAdd, Int.reduceMul, Int.reduceSub, Int.reduceLT, Int.reduceLE, Int.reduceEq, Int.reduceNe, Nat.reduceLeDiff, Nat.reduceLT, Int.reduceNeg, Nat.reducePow, Nat.reduceMod, ByteArray.size, rdR, iR, length_trR, hgF, hgS, hlS, hsub, d2]))
          refine At.of (n + 1, w) ⟨by simp only; omega, by simp only; omega, hwl, hnx, by simp only; rw [show 15 - (n + 1) = f by omega]; exact hx⟩ (by simp only; omega) rfl rfl ?_ ?_ ?_
          · simp only; omega
          iterate 2 (case _ => simp (disch := omega) only [wP, wZ, undef, eq_self, UInt8.reduceToNat, Nat.reduceOr, Nat.reduceAnd, Nat.reduceXor, Nat.reduceDiv, if_pos, if_neg, aStore, frz, AV.flat, ↓reduceIte, ne_eq, reduceCtorEq, Int.reduceToNat, Nat.reduceEqDiff, Nat.reduceAdd, Nat.reduceSub, Nat.reduceMul, Int.reduceAdd, Int.reduceMul, Int.reduceSub, Int.reduceLT, Int.reduceLE, Int.reduceEq, Int.reduceNe, Nat.reduceLeDiff, Nat.reduceLT, Int.reduceNeg, Nat.reducePow, Nat.reduceMod, ByteArray.size, rdR, Int.add_assoc])
  · simp only [decide_eq_false_iff_not] at h
    obtain rfl : n = 15 := by omega
    have hx : r = (0, 15, 3) := by rw [← hx]; rfl
    subst hx
    repeat (first | refine SWp.seq ?_ | refine SWp.block ?_ | refine SWp.condT rfl ?_ | refine SWp.condF rfl ?_ | refine LoopAt.next ?_ | refine And.intro (by omega) ?_ | ((first | refine SWp.reg ?_ | refine SWp.skip ?_ | refine SWp.exit ?_ | refine SWp.ret ?_ | refine (fun h => h : AOps _ _ _ _ → AOps _ _ _ _) ?_); simp (disch := omega) only [wP, wZ, undef, eq_self, UInt8.reduceToNat, Nat.reduceOr, Nat.reduceAnd, Nat.reduceXor, Nat.reduceDiv, if_pos, if_neg, aStore, frz, AV.flat, ↓reduceIte, ne_eq, reduceCtorEq, Int.reduceToNat, Nat.reduceEqDiff, Nat.reduceAdd, Nat.reduceSub, Nat.reduceMul, Int.reduceAdd, Int.reduceMul, Int.reduceSub, Int.reduceLT, Int.reduceLE, Int.reduceEq, Int.reduceNe, Nat.reduceLeDiff, Nat.reduceLT, Int.reduceNeg, Nat.reducePow, Nat.reduceMod, ByteArray.size, rdR, iR]))
    all_goals trace_state

theorem ren_tree {ρ : Nat → Nat → Nat × Nat} {l : List Nat} : ren ρ (.fp (.agg (trR l)) 0) = .fp (.agg (trR l)) 0 := ren_free ρ _ (by simp only [AV.free, free_trR])
theorem nxt_facts {l B : List Nat} : ∀ (f n v : Nat), n ≤ B.length → (nxt l B f n v).2.1 ≤ B.length ∧ ((nxt l B f n v).2.2 = 0 ∨ ((nxt l B f n v).2.2 = 2 ∧ (nxt l B f n v).2.1 = B.length) ∨ (nxt l B f n v).2.2 = 3)
  | 0, n, v, h => ⟨h, .inr (.inr rfl)⟩
  | f + 1, n, v, h => by
    rw [nxt]
    split
    · exact ⟨h, .inr (.inl ⟨rfl, by simp only; omega⟩)⟩
    · split
      · exact ⟨by simp only; omega, .inr (.inr rfl)⟩
      · split
        · exact ⟨by simp only; omega, .inl rfl⟩
        · exact nxt_facts f (n + 1) _ (by omega)

theorem huff_At_f [Tabs Tryd.prog] (nl : Bool) (b : List UInt8) (i : Nat) : Con Tryd.prog n_huff_Reader_At [.fp (.agg (rdR nl b i)) 0] (.sc (.int .i64 (i : Int))) := by
  refine Con.of' mix Tryd.func11 rfl Tryd.ntmps11 e_huff_Reader_At r_huff_Reader_At (by simp) (by simp only [rdR, AV.free, AV.free.freeL, free_u8, Bool.and_self]) rfl ?_
  unfold s_huff_Reader_At
  repeat (first | refine SWp.seq ?_ | refine SWp.block ?_ | refine SWp.condT rfl ?_ | refine SWp.condF rfl ?_ | refine LoopAt.next ?_ | refine And.intro (by omega) ?_ | ((first | refine SWp.reg ?_ | refine SWp.skip ?_ | refine SWp.exit ?_ | refine SWp.ret ?_ | refine (fun h => h : AOps _ _ _ _ → AOps _ _ _ _) ?_); simp (disch := omega) only [wP, wZ, undef, eq_self, UInt8.reduceToNat, Nat.reduceOr, Nat.reduceAnd, Nat.reduceXor, Nat.reduceDiv, if_pos, if_neg, aStore, frz, AV.flat, ↓reduceIte, ne_eq, reduceCtorEq, Int.reduceToNat, Nat.reduceEqDiff, Nat.reduceAdd, Nat.reduceSub, Nat.reduceMul, Int.reduceAdd, Int.reduceMul, Int.reduceSub, Int.reduceLT, Int.reduceLE, Int.reduceEq, Int.reduceNe, Nat.reduceLeDiff, Nat.reduceLT, Int.reduceNeg, Nat.reducePow, Nat.reduceMod, ByteArray.size, rdR]))

end Go.Proofs.YtokdmakljdhjiaaDoor.Aw
