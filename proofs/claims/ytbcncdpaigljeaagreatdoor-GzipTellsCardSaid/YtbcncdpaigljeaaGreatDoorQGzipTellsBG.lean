/- Parts of the proof of GzipTells. -/
import Derived.Test.YtbcncdpaigljeaaGreatDoorQGzipTellsBF
import Derived.Test.YtbcncdpaigljeaaGreatDoorQGzipTellsBE
import Derived.Test.YtbcncdpaigljeaaGreatDoorQGzipTellsAW
import Derived.Test.YtbcncdpaigljeaaGreatDoorRows
import Derived.MakeChecks
import Derived.Lib.LaidTab
namespace Go.Proofs.YtbcncdpaigljeaaGreatDoor.Aw
open Go
set_option linter.unusedSimpArgs false
set_option linter.unusedVariables false
theorem tells_lt : ∀ k, k < 19 → tells.getD k 0 < 19 := by decide
theorem numAt3 {b : List UInt8} {i : Nat} : numAt b i 3 ≤ 7 := by have := numAt_lt (b := b) (i := i) (n := 3); omega
theorem telT_ok {b : List UInt8} : ∀ (n k i j : Nat) (l th : List Nat), l.length = 19 → (∀ x ∈ l, x ≤ 7) → i ≤ 8 * b.length → (telT n k l).run (bitsL b) i = .ok th j → th.length = 19 ∧ ∀ x ∈ th, x ≤ 7 := by
  intro n
  induction n with
  | zero => intro k i j l th h1 h2 hi h; simp only [telT, BT.run, BR.ok.injEq] at h; obtain ⟨rfl, rfl⟩ := h; exact ⟨h1, h2⟩
  | succ n ih =>
    intro k i j l th h1 h2 hi h
    simp only [telT, run_bnd] at h
    rw [run_num hi] at h
    split at h
    · simp only [BR.bnd] at h
      refine ih _ _ _ _ _ (by rw [List.length_set]; exact h1) ?_ (by omega) h
      intro x hx
      rcases List.mem_or_eq_of_mem_set hx with hx | rfl
      · exact h2 x hx
      · exact numAt3
    · cases h
def ansP {α : Type} (good : α → AV) : BR α → AV
  | .ok a _ => .tup [good a, int 0]
  | .no e => .tup [.sc (.pointer none), int (e : Int)]
def houP {α : Type} (t : Bool) (most : Nat) (nl : Bool) (b : List UInt8) (out : List UInt8) : BR α → List (Nat × Nat × AO)
  | .ok _ j => unO 0 t most nl b j out
  | .no _ => []
def treA (l : List Nat) : AV := .fp (.agg (trR l)) 0
theorem free_treA {l : List Nat} : (treA l).free = true := by simp only [treA, AV.free, free_trR]
theorem ren_treA {ρ : Nat → Nat → Nat × Nat} {l : List Nat} : ren ρ (treA l) = treA l := ren_free ρ _ free_treA
set_option maxHeartbeats 1000000 in
set_option maxRecDepth 100000 in
theorem inf_teller_h [Tabs Tryz.prog] (ht : Tabs.tab Tryz.prog 1 = some (tells.map nA)) (t : Bool) (most : Nat) (nl : Bool) (b : List UInt8) (hb : b.length ≤ 1000000) (i : Nat) (hi : i ≤ 8 * b.length) (out : List UInt8) (n : Nat) (hn : n ≤ 19) (r : BR (List Nat)) (hr : (tlrT n).run (bitsL b) i = r) :
    HCon Tryz.prog n_inflate_unpacker_teller [.op 1000 0 0, int (n : Int)] (unI t most nl b i out) (ansP treA r) (houP t most nl b out r) 1000 := by
  refine HCon.of' mix Tryz.func105 rfl Tryz.ntmps105 e_inflate_unpacker_teller r_inflate_unpacker_teller (by simp) (by simp [AV.gl, AV.gl.glL, int]) un_gl ?_
  unfold s_inflate_unpacker_teller
  have hG : ∀ st, ev Tryz.prog st (.global 1) = .fp (.agg (tells.map nA)) 0 := fun st => ev_global ht
  obtain ⟨TT, hTT⟩ : ∃ TT, TT = tells := ⟨_, rfl⟩
  have hTl : TT.length = 19 := by rw [hTT]; rfl
  have hTx : ∀ k, k < 19 → TT.getD k 0 < 19 := by rw [hTT]; exact tells_lt
  have hz : (List.replicate 19 [AV.sc (.int .i64 0)]).flatten = (List.replicate 19 0).map nA := zerosN
  rw [tlrT, run_bnd] at hr
  rw [← hTT] at hG
  obtain ⟨Z, hZ⟩ : ∃ Z : List Nat, Z = List.replicate 19 0 := ⟨_, rfl⟩
  have hZl : Z.length = 19 := by rw [hZ]; rfl
  have hZ7 : ∀ x ∈ Z, x ≤ 7 := by rw [hZ]; simp
  rw [← hZ] at hz hr
  have hok := telT_ok (b := b) n 0 i
  obtain ⟨r0, hr0⟩ : ∃ r0, (telT n 0 Z).run (bitsL b) i = r0 := ⟨_, rfl⟩
  rw [hr0] at hr
  repeat (first | refine wA ?_ | refine wB ?_ | refine wC rfl ?_ | refine wD rfl ?_ | refine wE ?_ | refine wF (by omega) ?_ | ((first | refine wG ?_ | refine wH ?_ | refine wI ?_ | refine wJ ?_ | refine wK ?_ | refine wL ?_); simp (disch := omega) only [wP, wZ, undef, UInt8.reduceToNat, Nat.reduceOr, Nat.reduceAnd, Nat.reduceXor, Nat.reduceDiv, if_pos, if_neg, aStore, frz, AV.flat, ↓reduceIte, ne_eq, reduceCtorEq, Int.reduceToNat, Nat.reduceEqDiff, Nat.reduceAdd, Nat.reduceSub, Nat.reduceMul, Int.reduceAdd, Int.reduceMul, Int.reduceSub, Int.reduceLT, Int.reduceLE, Int.reduceEq, Int.reduceNe, Nat.reduceLeDiff, Nat.reduceLT, Int.reduceNeg, Nat.reducePow, Nat.reduceMod, ByteArray.size, unI, hz]))
  refine SWp.loop (α := Nat × List Nat × Nat) (fun x => mk 39 (2 + 30 * x.1) [(0, .op 1000 0 0), (6, .own 10 1 none 0 19), (11, int (n : Int)), (12, int (x.1 : Int))] [(1000, 0, .row false (unR t most 0 out.length)), (1001, 0, .row false (rdR nl b x.2.2)), (1002, 0, .row (nl0 out.length) (out.map u8)), (10, 1, .row false (x.2.1.map nA))])
    (fun x => x.1 ≤ n ∧ (telT (n - x.1) x.1 x.2.1).run (bitsL b) x.2.2 = r0 ∧ x.2.1.length = 19 ∧ (∀ y ∈ x.2.1, y ≤ 7) ∧ x.2.2 ≤ 8 * b.length) (fun x => n - x.1) (0, Z, i) ⟨Nat.zero_le _, hr0, hZl, hZ7, hi⟩ (le_mk rfl ?_ ?_ ?_) ?_
  · exact Nat.le_refl _
  iterate 2 (case _ => simp (disch := omega) only [wP, wZ, undef, UInt8.reduceToNat, Nat.reduceOr, Nat.reduceAnd, Nat.reduceXor, Nat.reduceDiv, if_pos, if_neg, aStore, frz, AV.flat, ↓reduceIte, ne_eq, reduceCtorEq, Int.reduceToNat, Nat.reduceEqDiff, Nat.reduceAdd, Nat.reduceSub, Nat.reduceMul, Int.reduceAdd, Int.reduceMul, Int.reduceSub, Int.reduceLT, Int.reduceLE, Int.reduceEq, Int.reduceNe, Nat.reduceLeDiff, Nat.reduceLT, Int.reduceNeg, Nat.reducePow, Nat.reduceMod, ByteArray.size])
  rintro ⟨k, l, p⟩ ⟨hk, hx, hll, hl7, hp⟩ -
  simp only at hk hx hll hl7 hp
  repeat (first | refine wA ?_ | refine wB ?_ | refine wC rfl ?_ | refine wD rfl ?_ | refine wE ?_ | refine wF (by omega) ?_ | ((first | refine wG ?_ | refine wH ?_ | refine wI ?_ | refine wJ ?_ | refine wK ?_ | refine wL ?_); simp (disch := omega) only [wP, wZ, undef, UInt8.reduceToNat, Nat.reduceOr, Nat.reduceAnd, Nat.reduceXor, Nat.reduceDiv, if_pos, if_neg, aStore, frz, AV.flat, ↓reduceIte, ne_eq, reduceCtorEq, Int.reduceToNat, Nat.reduceEqDiff, Nat.reduceAdd, Nat.reduceSub, Nat.reduceMul, Int.reduceAdd, Int.reduceMul, Int.reduceSub, Int.reduceLT, Int.reduceLE, Int.reduceEq, Int.reduceNe, Nat.reduceLeDiff, Nat.reduceLT, Int.reduceNeg, Nat.reducePow, Nat.reduceMod, ByteArray.size]))
  refine SWp.cond rfl (fun h => ?_) (fun h => ?_)
  · simp only [decide_eq_true_eq] at h
    obtain ⟨f, hf⟩ : ∃ f, n - k = f + 1 := ⟨n - k - 1, by omega⟩
    rw [hf, telT, run_bnd, run_num hp] at hx
    by_cases c1 : p + 3 ≤ 8 * b.length
    · rw [if_pos c1] at hx
      simp only [BR.bnd] at hx
      have hT := huff_Take_h nl b hb p hp 3 (by omega) c1
      have hv7 := numAt3 (b := b) (i := p)
      obtain ⟨v, hv⟩ : ∃ v, v = numAt b p 3 := ⟨_, rfl⟩
      rw [← hv] at hT hx hv7
      have hw := hTx k (by omega)
      rw [← hTT] at hx
      obtain ⟨w, hwd⟩ : ∃ w, w = TT.getD k 0 := ⟨_, rfl⟩
      rw [← hwd] at hx hw
      have hsp := splice_nA (l := l) (k := w) (x := v) (by omega)
      repeat (first | refine wA ?_ | refine wB ?_ | refine wC rfl ?_ | refine wD rfl ?_ | refine wE ?_ | refine wF (by omega) ?_ | ((first | refine wG ?_ | refine wH ?_ | refine wI ?_ | refine wJ ?_ | refine wK ?_ | refine wL ?_); simp (disch := omega) only [wP, wZ, undef, UInt8.reduceToNat, Nat.reduceOr, Nat.reduceAnd, Nat.reduceXor, Nat.reduceDiv, if_pos, if_neg, aStore, frz, AV.flat, ↓reduceIte, ne_eq, reduceCtorEq, Int.reduceToNat, Nat.reduceEqDiff, Nat.reduceAdd, Nat.reduceSub, Nat.reduceMul, Int.reduceAdd, Int.reduceMul, Int.reduceSub, Int.reduceLT, Int.reduceLE, Int.reduceEq, Int.reduceNe, Nat.reduceLeDiff, Nat.reduceLT, Int.reduceNeg, Nat.reducePow, Nat.reduceMod, ByteArray.size, unR]))
      refine goC_h [(1001, 0)] 2000 hT (by simp) (by simp) ?_ ?_ ?_
      iterate 2 (case _ => simp (disch := omega) only [wP, wZ, undef, UInt8.reduceToNat, Nat.reduceOr, Nat.reduceAnd, Nat.reduceXor, Nat.reduceDiv, if_pos, if_neg, aStore, frz, AV.flat, ↓reduceIte, ne_eq, reduceCtorEq, Int.reduceToNat, Nat.reduceEqDiff, Nat.reduceAdd, Nat.reduceSub, Nat.reduceMul, Int.reduceAdd, Int.reduceMul, Int.reduceSub, Int.reduceLT, Int.reduceLE, Int.reduceEq, Int.reduceNe, Nat.reduceLeDiff, Nat.reduceLT, Int.reduceNeg, Nat.reducePow, Nat.reduceMod, ByteArray.size, rdR])
      repeat (first | refine wA ?_ | refine wB ?_ | refine wC rfl ?_ | refine wD rfl ?_ | refine wE ?_ | refine wF (by omega) ?_ | ((first | refine wG ?_ | refine wH ?_ | refine wI ?_ | refine wJ ?_ | refine wK ?_ | refine wL ?_); simp (disch := omega) only [wP, wZ, undef, UInt8.reduceToNat, Nat.reduceOr, Nat.reduceAnd, Nat.reduceXor, Nat.reduceDiv, if_pos, if_neg, aStore, frz, AV.flat, ↓reduceIte, ne_eq, reduceCtorEq, Int.reduceToNat, Nat.reduceEqDiff, Nat.reduceAdd, Nat.reduceSub, Nat.reduceMul, Int.reduceAdd, Int.reduceMul, Int.reduceSub, Int.reduceLT, Int.reduceLE, Int.reduceEq, Int.reduceNe, Nat.reduceLeDiff, Nat.reduceLT, Int.reduceNeg, Nat.reducePow, Nat.reduceMod, ByteArray.size, unR, rdR, hG, iR, ← hwd, hTl, hll]))
      refine At.of (k + 1, l.set w v, p + 3) ⟨by simp only; omega, by simp only; rw [show n - (k + 1) = f by omega]; exact hx, by simp only [List.length_set]; exact hll, ?_, c1⟩ (by simp only; omega) rfl rfl ?_ ?_ ?_
      · intro y hy
        rcases List.mem_or_eq_of_mem_set hy with hy | rfl
        · exact hl7 y hy
        · exact hv7
      · simp only; omega
      iterate 2 (case _ => simp (disch := omega) only [wP, wZ, undef, UInt8.reduceToNat, Nat.reduceOr, Nat.reduceAnd, Nat.reduceXor, Nat.reduceDiv, if_pos, if_neg, aStore, frz, AV.flat, ↓reduceIte, ne_eq, reduceCtorEq, Int.reduceToNat, Nat.reduceEqDiff, Nat.reduceAdd, Nat.reduceSub, Nat.reduceMul, Int.reduceAdd, Int.reduceMul, Int.reduceSub, Int.reduceLT, Int.reduceLE, Int.reduceEq, Int.reduceNe, Nat.reduceLeDiff, Nat.reduceLT, Int.reduceNeg, Nat.reducePow, Nat.reduceMod, ByteArray.size, unR, rdR, hsp])
    · rw [if_neg c1] at hx
      simp only [BR.bnd] at hx
      subst hx
      simp only [BR.bnd] at hr
      subst hr
      have hT := huff_Take_no nl b hb p hp 3 (decide_eq_false (by omega))
      repeat (first | refine wA ?_ | refine wB ?_ | refine wC rfl ?_ | refine wD rfl ?_ | refine wE ?_ | refine wF (by omega) ?_ | ((first | refine wG ?_ | refine wH ?_ | refine wI ?_ | refine wJ ?_ | refine wK ?_ | refine wL ?_); simp (disch := omega) only [wP, wZ, undef, UInt8.reduceToNat, Nat.reduceOr, Nat.reduceAnd, Nat.reduceXor, Nat.reduceDiv, if_pos, if_neg, aStore, frz, AV.flat, ↓reduceIte, ne_eq, reduceCtorEq, Int.reduceToNat, Nat.reduceEqDiff, Nat.reduceAdd, Nat.reduceSub, Nat.reduceMul, Int.reduceAdd, Int.reduceMul, Int.reduceSub, Int.reduceLT, Int.reduceLE, Int.reduceEq, Int.reduceNe, Nat.reduceLeDiff, Nat.reduceLT, Int.reduceNeg, Nat.reducePow, Nat.reduceMod, ByteArray.size, unR]))
      refine goC_h [(1001, 0)] 2000 hT (by simp) (by simp) ?_ ?_ ?_
      iterate 2 (case _ => simp (disch := omega) only [wP, wZ, undef, UInt8.reduceToNat, Nat.reduceOr, Nat.reduceAnd, Nat.reduceXor, Nat.reduceDiv, if_pos, if_neg, aStore, frz, AV.flat, ↓reduceIte, ne_eq, reduceCtorEq, Int.reduceToNat, Nat.reduceEqDiff, Nat.reduceAdd, Nat.reduceSub, Nat.reduceMul, Int.reduceAdd, Int.reduceMul, Int.reduceSub, Int.reduceLT, Int.reduceLE, Int.reduceEq, Int.reduceNe, Nat.reduceLeDiff, Nat.reduceLT, Int.reduceNeg, Nat.reducePow, Nat.reduceMod, ByteArray.size, rdR])
      repeat (first | refine wA ?_ | refine wB ?_ | refine wC rfl ?_ | refine wD rfl ?_ | refine wE ?_ | refine wF (by omega) ?_ | ((first | refine wG ?_ | refine wH ?_ | refine wI ?_ | refine wJ ?_ | refine wK ?_ | refine wL ?_); simp (disch := omega) only [wP, wZ, undef, UInt8.reduceToNat, Nat.reduceOr, Nat.reduceAnd, Nat.reduceXor, Nat.reduceDiv, if_pos, if_neg, aStore, frz, AV.flat, ↓reduceIte, ne_eq, reduceCtorEq, Int.reduceToNat, Nat.reduceEqDiff, Nat.reduceAdd, Nat.reduceSub, Nat.reduceMul, Int.reduceAdd, Int.reduceMul, Int.reduceSub, Int.reduceLT, Int.reduceLE, Int.reduceEq, Int.reduceNe, Nat.reduceLeDiff, Nat.reduceLT, Int.reduceNeg, Nat.reducePow, Nat.reduceMod, ByteArray.size, unR, rdR, ansP, houP]))
      omega
  · simp only [decide_eq_false_iff_not] at h
    obtain rfl : k = n := by omega
    rw [Nat.sub_self, telT] at hx
    simp only [BT.run] at hx
    subst hx
    simp only [BR.bnd] at hr
    have hf := huff_Full_n false l (fun x hx => by have := hl7 x hx; omega) (by omega)
    have hfr : AV.free.freeL [.sl false none (l.map nA)] = true := by simp only [AV.free, AV.free.freeL, free_nA, Bool.and_self]
    have htk : l.take 19 = l := List.take_of_length_le (by omega)
    by_cases c2 : fulN l = true
    · rw [if_pos c2] at hr
      simp only [BT.run] at hr
      subst hr
      rw [c2] at hf
      have t1 := huff_NewTree_n false l (fun x hx => by have := hl7 x hx; omega) (by omega) (by simp only [fulN, decide_eq_true_eq] at c2; omega)
      repeat (first | refine wA ?_ | refine wB ?_ | refine wC rfl ?_ | refine wD rfl ?_ | refine wE ?_ | refine wF (by omega) ?_ | ((first | refine wG ?_ | refine wH ?_ | refine wI ?_ | refine wJ ?_ | refine wK ?_ | refine wL ?_); simp (disch := omega) only [wP, wZ, undef, UInt8.reduceToNat, Nat.reduceOr, Nat.reduceAnd, Nat.reduceXor, Nat.reduceDiv, if_pos, if_neg, aStore, frz, AV.flat, ↓reduceIte, ne_eq, reduceCtorEq, Int.reduceToNat, Nat.reduceEqDiff, Nat.reduceAdd, Nat.reduceSub, Nat.reduceMul, Int.reduceAdd, Int.reduceMul, Int.reduceSub, Int.reduceLT, Int.reduceLE, Int.reduceEq, Int.reduceNe, Nat.reduceLeDiff, Nat.reduceLT, Int.reduceNeg, Nat.reducePow, Nat.reduceMod, ByteArray.size]))
      refine goC_p (boo true) (.inr ⟨rfl, ?_, ?_⟩) ?_
      · simp (disch := omega) only [wP, wZ, undef, UInt8.reduceToNat, Nat.reduceOr, Nat.reduceAnd, Nat.reduceXor, Nat.reduceDiv, if_pos, if_neg, aStore, frz, AV.flat, ↓reduceIte, ne_eq, reduceCtorEq, Int.reduceToNat, Nat.reduceEqDiff, Nat.reduceAdd, Nat.reduceSub, Nat.reduceMul, Int.reduceAdd, Int.reduceMul, Int.reduceSub, Int.reduceLT, Int.reduceLE, Int.reduceEq, Int.reduceNe, Nat.reduceLeDiff, Nat.reduceLT, Int.reduceNeg, Nat.reducePow, Nat.reduceMod, ByteArray.size, iR, hll, htk]
      · simp (disch := omega) only [wP, wZ, undef, UInt8.reduceToNat, Nat.reduceOr, Nat.reduceAnd, Nat.reduceXor, Nat.reduceDiv, if_pos, if_neg, aStore, frz, AV.flat, ↓reduceIte, ne_eq, reduceCtorEq, Int.reduceToNat, Nat.reduceEqDiff, Nat.reduceAdd, Nat.reduceSub, Nat.reduceMul, Int.reduceAdd, Int.reduceMul, Int.reduceSub, Int.reduceLT, Int.reduceLE, Int.reduceEq, Int.reduceNe, Nat.reduceLeDiff, Nat.reduceLT, Int.reduceNeg, Nat.reducePow, Nat.reduceMod, ByteArray.size, iR, hll, htk]
        exact hf
      repeat (first | refine wA ?_ | refine wB ?_ | refine wC rfl ?_ | refine wD rfl ?_ | refine wE ?_ | refine wF (by omega) ?_ | ((first | refine wG ?_ | refine wH ?_ | refine wI ?_ | refine wJ ?_ | refine wK ?_ | refine wL ?_); simp (disch := omega) only [wP, wZ, undef, UInt8.reduceToNat, Nat.reduceOr, Nat.reduceAnd, Nat.reduceXor, Nat.reduceDiv, if_pos, if_neg, aStore, frz, AV.flat, ↓reduceIte, ne_eq, reduceCtorEq, Int.reduceToNat, Nat.reduceEqDiff, Nat.reduceAdd, Nat.reduceSub, Nat.reduceMul, Int.reduceAdd, Int.reduceMul, Int.reduceSub, Int.reduceLT, Int.reduceLE, Int.reduceEq, Int.reduceNe, Nat.reduceLeDiff, Nat.reduceLT, Int.reduceNeg, Nat.reducePow, Nat.reduceMod, ByteArray.size]))
      refine goC_f 10 1 (nl := false) (cells := l.map nA) [.sl false none (l.map nA)] _ (by simp (disch := omega) only [wP, wZ, undef, UInt8.reduceToNat, Nat.reduceOr, Nat.reduceAnd, Nat.reduceXor, Nat.reduceDiv, if_pos, if_neg, aStore, frz, AV.flat, ↓reduceIte, ne_eq, reduceCtorEq, Int.reduceToNat, Nat.reduceEqDiff, Nat.reduceAdd, Nat.reduceSub, Nat.reduceMul, Int.reduceAdd, Int.reduceMul, Int.reduceSub, Int.reduceLT, Int.reduceLE, Int.reduceEq, Int.reduceNe, Nat.reduceLeDiff, Nat.reduceLT, Int.reduceNeg, Nat.reducePow, Nat.reduceMod, ByteArray.size]) (by simp (disch := omega) only [wP, wZ, undef, UInt8.reduceToNat, Nat.reduceOr, Nat.reduceAnd, Nat.reduceXor, Nat.reduceDiv, if_pos, if_neg, aStore, frz, AV.flat, ↓reduceIte, ne_eq, reduceCtorEq, Int.reduceToNat, Nat.reduceEqDiff, Nat.reduceAdd, Nat.reduceSub, Nat.reduceMul, Int.reduceAdd, Int.reduceMul, Int.reduceSub, Int.reduceLT, Int.reduceLE, Int.reduceEq, Int.reduceNe, Nat.reduceLeDiff, Nat.reduceLT, Int.reduceNeg, Nat.reducePow, Nat.reduceMod, ByteArray.size, free_nA]) ?_ hfr t1 ?_
      · simp (disch := omega) only [wP, wZ, undef, UInt8.reduceToNat, Nat.reduceOr, Nat.reduceAnd, Nat.reduceXor, Nat.reduceDiv, if_pos, if_neg, aStore, frz, AV.flat, ↓reduceIte, ne_eq, reduceCtorEq, Int.reduceToNat, Nat.reduceEqDiff, Nat.reduceAdd, Nat.reduceSub, Nat.reduceMul, Int.reduceAdd, Int.reduceMul, Int.reduceSub, Int.reduceLT, Int.reduceLE, Int.reduceEq, Int.reduceNe, Nat.reduceLeDiff, Nat.reduceLT, Int.reduceNeg, Nat.reducePow, Nat.reduceMod, ByteArray.size, fR, iR, hll, htk]
      repeat (first | refine wA ?_ | refine wB ?_ | refine wC rfl ?_ | refine wD rfl ?_ | refine wE ?_ | refine wF (by omega) ?_ | ((first | refine wG ?_ | refine wH ?_ | refine wI ?_ | refine wJ ?_ | refine wK ?_ | refine wL ?_); simp (disch := omega) only [wP, wZ, undef, UInt8.reduceToNat, Nat.reduceOr, Nat.reduceAnd, Nat.reduceXor, Nat.reduceDiv, if_pos, if_neg, aStore, frz, AV.flat, ↓reduceIte, ne_eq, reduceCtorEq, Int.reduceToNat, Nat.reduceEqDiff, Nat.reduceAdd, Nat.reduceSub, Nat.reduceMul, Int.reduceAdd, Int.reduceMul, Int.reduceSub, Int.reduceLT, Int.reduceLE, Int.reduceEq, Int.reduceNe, Nat.reduceLeDiff, Nat.reduceLT, Int.reduceNeg, Nat.reducePow, Nat.reduceMod, ByteArray.size, ansP, houP, unO, treA, unR, rdR]))
      omega
    · rw [if_neg c2] at hr
      simp only [BT.run] at hr
      subst hr
      rw [Bool.not_eq_true] at c2
      rw [c2] at hf
      repeat (first | refine wA ?_ | refine wB ?_ | refine wC rfl ?_ | refine wD rfl ?_ | refine wE ?_ | refine wF (by omega) ?_ | ((first | refine wG ?_ | refine wH ?_ | refine wI ?_ | refine wJ ?_ | refine wK ?_ | refine wL ?_); simp (disch := omega) only [wP, wZ, undef, UInt8.reduceToNat, Nat.reduceOr, Nat.reduceAnd, Nat.reduceXor, Nat.reduceDiv, if_pos, if_neg, aStore, frz, AV.flat, ↓reduceIte, ne_eq, reduceCtorEq, Int.reduceToNat, Nat.reduceEqDiff, Nat.reduceAdd, Nat.reduceSub, Nat.reduceMul, Int.reduceAdd, Int.reduceMul, Int.reduceSub, Int.reduceLT, Int.reduceLE, Int.reduceEq, Int.reduceNe, Nat.reduceLeDiff, Nat.reduceLT, Int.reduceNeg, Nat.reducePow, Nat.reduceMod, ByteArray.size]))
      refine goC_p (boo false) (.inr ⟨rfl, ?_, ?_⟩) ?_
      · simp (disch := omega) only [wP, wZ, undef, UInt8.reduceToNat, Nat.reduceOr, Nat.reduceAnd, Nat.reduceXor, Nat.reduceDiv, if_pos, if_neg, aStore, frz, AV.flat, ↓reduceIte, ne_eq, reduceCtorEq, Int.reduceToNat, Nat.reduceEqDiff, Nat.reduceAdd, Nat.reduceSub, Nat.reduceMul, Int.reduceAdd, Int.reduceMul, Int.reduceSub, Int.reduceLT, Int.reduceLE, Int.reduceEq, Int.reduceNe, Nat.reduceLeDiff, Nat.reduceLT, Int.reduceNeg, Nat.reducePow, Nat.reduceMod, ByteArray.size, iR, hll, htk]
      · simp (disch := omega) only [wP, wZ, undef, UInt8.reduceToNat, Nat.reduceOr, Nat.reduceAnd, Nat.reduceXor, Nat.reduceDiv, if_pos, if_neg, aStore, frz, AV.flat, ↓reduceIte, ne_eq, reduceCtorEq, Int.reduceToNat, Nat.reduceEqDiff, Nat.reduceAdd, Nat.reduceSub, Nat.reduceMul, Int.reduceAdd, Int.reduceMul, Int.reduceSub, Int.reduceLT, Int.reduceLE, Int.reduceEq, Int.reduceNe, Nat.reduceLeDiff, Nat.reduceLT, Int.reduceNeg, Nat.reducePow, Nat.reduceMod, ByteArray.size, iR, hll, htk]
        exact hf
      repeat (first | refine wA ?_ | refine wB ?_ | refine wC rfl ?_ | refine wD rfl ?_ | refine wE ?_ | refine wF (by omega) ?_ | ((first | refine wG ?_ | refine wH ?_ | refine wI ?_ | refine wJ ?_ | refine wK ?_ | refine wL ?_); simp (disch := omega) only [wP, wZ, undef, UInt8.reduceToNat, Nat.reduceOr, Nat.reduceAnd, Nat.reduceXor, Nat.reduceDiv, if_pos, if_neg, aStore, frz, AV.flat, ↓reduceIte, ne_eq, reduceCtorEq, Int.reduceToNat, Nat.reduceEqDiff, Nat.reduceAdd, Nat.reduceSub, Nat.reduceMul, Int.reduceAdd, Int.reduceMul, Int.reduceSub, Int.reduceLT, Int.reduceLE, Int.reduceEq, Int.reduceNe, Nat.reduceLeDiff, Nat.reduceLT, Int.reduceNeg, Nat.reducePow, Nat.reduceMod, ByteArray.size, ansP, houP]))
      omega
end Go.Proofs.YtbcncdpaigljeaaGreatDoor.Aw
namespace Go.Proofs.YtbcncdpaigljeaaGreatDoor.Aw
open Go
set_option linter.unusedSimpArgs false
set_option linter.unusedVariables false
def ansL : BR (List Nat) → AV
  | .ok l _ => .tup [.sl false none (l.map nA), int 0]
  | .no e => .tup [.sc (.slice none 0 0), int (e : Int)]
theorem nl0_add {a c : Nat} (h : 0 < c) : nl0 (a + c) = false := nl0_pos (by omega)
set_option maxHeartbeats 2000000 in
set_option maxRecDepth 100000 in
theorem inf_lengths_h [Tabs Tryz.prog] (t : Bool) (most : Nat) (nl : Bool) (b : List UInt8) (hb : b.length ≤ 1000000) (i : Nat) (hi : i ≤ 8 * b.length) (out : List UInt8) (th : List Nat) (hth : th.length = 19) (hK : kraft th ≤ 32768) (n : Nat) (hn0 : 0 < n) (hn : n < 400) (r : BR (List Nat)) (hr : (lsT th n 400 []).run (bitsL b) i = r) :
    HCon Tryz.prog n_inflate_unpacker_lengths [.op 1000 0 0, treA th, int (n : Int)] (unI t most nl b i out) (ansL r) (houP t most nl b out r) 500000 := by
  refine HCon.of' mix Tryz.func106 rfl Tryz.ntmps106 e_inflate_unpacker_lengths r_inflate_unpacker_lengths (by simp) (by simp only [AV.gl.glL, AV.gl, int, and_true]; exact ⟨by omega, gl_of_free 1 _ free_treA⟩) un_gl ?_
  unfold s_inflate_unpacker_lengths
  repeat (first | refine wA ?_ | refine wB ?_ | refine wC rfl ?_ | refine wD rfl ?_ | refine wE ?_ | refine wF (by omega) ?_ | ((first | refine wG ?_ | refine wH ?_ | refine wI ?_ | refine wJ ?_ | refine wK ?_ | refine wL ?_); simp (disch := omega) only [wP, wZ, undef, seval, if_pos, if_neg, aStore, frz, AV.flat, ↓reduceIte, ne_eq, reduceCtorEq, ByteArray.size, unI]))
  refine SWp.adopt 8 none (by simp (disch := omega) only [wP, wZ, undef, seval, if_pos, if_neg, aStore, frz, AV.flat, ↓reduceIte, ne_eq, reduceCtorEq, ByteArray.size]) ?_
  refine SWp.loop (α := Nat × List Nat × Nat × Nat × Nat) (fun x => mk 70 x.2.2.2.2 [(0, .op 1000 0 0), (1, treA th), (2, int (n : Int)), (8, .own 8 x.2.2.2.1 none 0 x.2.1.length)] [(1000, 0, .row false (unR t most 0 out.length)), (1001, 0, .row false (rdR nl b x.2.2.1)), (1002, 0, .row (nl0 out.length) (out.map u8)), (8, x.2.2.2.1, .row (nl0 x.2.1.length) (x.2.1.map nA))])
    (fun x => (lsT th n x.1 x.2.1).run (bitsL b) x.2.2.1 = r ∧ x.2.2.1 ≤ 8 * b.length ∧ x.2.1.length ≤ n ∧ n - x.2.1.length < x.1 ∧ (∀ y ∈ x.2.1, y ≤ 18) ∧ x.2.2.2.2 + 1000 * x.1 ≤ 400002) (fun x => x.1) (400, [], i, 1, 2) ⟨hr, hi, Nat.zero_le _, by simp only [List.length_nil]; omega, by simp, by simp only; omega⟩ (le_mk rfl ?_ ?_ ?_) ?_
  · exact Nat.le_refl _
  iterate 2 (case _ => simp (disch := omega) only [wP, wZ, undef, seval, if_pos, if_neg, aStore, frz, AV.flat, ↓reduceIte, ne_eq, reduceCtorEq, ByteArray.size, nl0_zero])
  rintro ⟨f, l, p, g, c⟩ ⟨hx, hp, hln, hf, hl18, hc⟩ -
  simp only at hx hp hln hf hl18 hc
  obtain ⟨f, rfl⟩ : ∃ f', f = f' + 1 := ⟨f - 1, by omega⟩
  rw [lsT] at hx
  repeat (first | refine wA ?_ | refine wB ?_ | refine wC rfl ?_ | refine wD rfl ?_ | refine wE ?_ | refine wF (by omega) ?_ | ((first | refine wG ?_ | refine wH ?_ | refine wI ?_ | refine wJ ?_ | refine wK ?_ | refine wL ?_); simp (disch := omega) only [wP, wZ, undef, seval, if_pos, if_neg, aStore, frz, AV.flat, ↓reduceIte, ne_eq, reduceCtorEq, ByteArray.size]))
  refine SWp.cond rfl (fun h => ?_) (fun h => ?_)
  · simp only [decide_eq_true_eq] at h
    have hlt : l.length < n := by omega
    rw [if_neg (by omega), run_bnd, run_nxt] at hx
    have hfc := nxt_facts (l := th) (B := (bitsL b).drop p) 15 0 0 (Nat.zero_le _)
    have hsy := nxt_sym (l := th) (B := (bitsL b).drop p) 15 0 0
    have hN := huff_Next_h th (by omega) hK nl b hb p hp _ rfl
    rw [List.length_drop, length_bitsL] at hfc
    obtain ⟨⟨sy, m, e⟩, hr2⟩ : ∃ r, r = nxt th ((bitsL b).drop p) 15 0 0 := ⟨_, rfl⟩
    rw [← hr2] at hfc hsy hN hx
    simp only at hfc hsy hN
    clear hr2 hr
    by_cases c2 : e = 0
    · subst c2
      have hsy := hsy rfl
      obtain ⟨q, hq⟩ : ∃ q, q = p + m := ⟨_, rfl⟩
      have hq8 : q ≤ 8 * b.length := by omega
      simp only [nxtR, if_true, BR.bnd] at hx
      rw [← hq] at hN hx
      by_cases c16 : sy = 16 ∧ l = []
      · rw [if_pos c16] at hx
        simp only [BT.run] at hx
        subst hx
        obtain ⟨rfl, rfl⟩ := c16
        repeat (first | refine wA ?_ | refine wB ?_ | refine wC rfl ?_ | refine wD rfl ?_ | refine wE ?_ | refine wF (by omega) ?_ | ((first | refine wG ?_ | refine wH ?_ | refine wI ?_ | refine wJ ?_ | refine wK ?_ | refine wL ?_); simp (disch := omega) only [wP, wZ, undef, seval, if_pos, if_neg, aStore, frz, AV.flat, ↓reduceIte, ne_eq, reduceCtorEq, ByteArray.size, unR, treA]))
        refine goC_h [(1001, 0)] 2000 hN (by simp) (by simp) ?_ ?_ ?_
        iterate 2 (case _ => simp (disch := omega) only [wP, wZ, undef, seval, if_pos, if_neg, aStore, frz, AV.flat, ↓reduceIte, ne_eq, reduceCtorEq, ByteArray.size, rdR, ren_tree])
        repeat (first | refine wA ?_ | refine wB ?_ | refine wC rfl ?_ | refine wD rfl ?_ | refine wE ?_ | refine wF (by omega) ?_ | ((first | refine wG ?_ | refine wH ?_ | refine wI ?_ | refine wJ ?_ | refine wK ?_ | refine wL ?_); simp (disch := omega) only [wP, wZ, undef, seval, if_pos, if_neg, aStore, frz, AV.flat, ↓reduceIte, ne_eq, reduceCtorEq, ByteArray.size, ansL, houP]))
        omega
      · rw [if_neg c16, run_bnd] at hx
        obtain ⟨V, hV⟩ : ∃ V, V = lsV sy l := ⟨_, rfl⟩
        obtain ⟨N, hN1⟩ : ∃ N, N = lsN sy := ⟨_, rfl⟩
        obtain ⟨Bt, hBt⟩ : ∃ B, B = lsB sy := ⟨_, rfl⟩
        have hV18 : V ≤ 18 := by
          rw [hV]; unfold lsV
          split
          · rename_i e16
            have hne : l ≠ [] := fun h => c16 ⟨e16, h⟩
            have h0 : l.length - 1 < l.length := by have := List.length_pos_iff.2 hne; omega
            have : l.getD (l.length - 1) 0 = l[l.length - 1] := by simp [List.getD, List.getElem?_eq_getElem h0]
            rw [this]; exact hl18 _ (List.getElem_mem h0)
          · split
            · omega
            · omega
        have hN3 : 1 ≤ N ∧ N ≤ 11 := by rw [hN1]; unfold lsN; split <;> (try split) <;> omega
        have hB7 : Bt ≤ 7 := by rw [hBt]; unfold lsB; split <;> (try split) <;> (try split) <;> omega
        rw [← hV, ← hN1, ← hBt] at hx
        have hA := inf_plus_a t most nl b hb q hq8 out N Bt (by omega) (by omega)
        have hAi := fun a j (h : (plusT N Bt).run (bitsL b) q = .ok a j) => (run_ok h).2 (by rw [length_bitsL]; exact hq8)
        have hA2 := fun a j (h : (plusT N Bt).run (bitsL b) q = .ok a j) => And.intro (plusT_le bitsL_lt h) (plusT_ge h)
        have hp7 : 2 ^ Bt ≤ 128 := two_pow_le (n := Bt) (m := 7) hB7
        obtain ⟨r1, hr1⟩ : ∃ r, r = (plusT N Bt).run (bitsL b) q := ⟨_, rfl⟩
        rw [← hr1] at hA hAi hA2 hx
        cases r1 with
        | no e1 =>
          simp only [BR.bnd] at hx
          subst hx
          have de : decide ((e1 : Int) = 0) = false := decide_eq_false (by have := hA.1; omega)
          by_cases e16 : sy = 16
          · subst e16
            have hl0 : 0 < l.length := List.length_pos_iff.2 fun h => c16 ⟨rfl, h⟩
            have dl : decide ((l.length : Int) = 0) = false := decide_eq_false (by omega)
            obtain ⟨z, hz⟩ : ∃ z, z = l.length - 1 := ⟨_, rfl⟩
            have ez : (l.length : Int) - 1 = (z : Int) := by omega
            have hVz : l.getD z 0 = V := by rw [hV, hz]; rfl
            obtain rfl : N = 3 := hN1
            obtain rfl : Bt = 2 := hBt
            repeat (first | refine wA ?_ | refine wB ?_ | refine wC rfl ?_ | refine wD rfl ?_ | refine wE ?_ | refine wF (by omega) ?_ | ((first | refine wG ?_ | refine wH ?_ | refine wI ?_ | refine wJ ?_ | refine wK ?_ | refine wL ?_); simp (disch := omega) only [wP, wZ, undef, seval, if_pos, if_neg, aStore, frz, AV.flat, ↓reduceIte, ne_eq, reduceCtorEq, ByteArray.size, unR, treA]))
            refine goC_h [(1001, 0)] 2000 hN (by simp) (by simp) ?_ ?_ ?_
            iterate 2 (case _ => simp (disch := omega) only [wP, wZ, undef, seval, if_pos, if_neg, aStore, frz, AV.flat, ↓reduceIte, ne_eq, reduceCtorEq, ByteArray.size, rdR, ren_tree])
            repeat (first | refine wA ?_ | refine wB ?_ | refine wC rfl ?_ | refine wD rfl ?_ | refine wE ?_ | refine wF (by omega) ?_ | ((first | refine wG ?_ | refine wH ?_ | refine wI ?_ | refine wJ ?_ | refine wK ?_ | refine wL ?_); simp (disch := omega) only [wP, wZ, undef, seval, if_pos, if_neg, aStore, frz, AV.flat, ↓reduceIte, ne_eq, reduceCtorEq, ByteArray.size, unR, rdR, dl, ez, iR, hVz]))
            refine goC_h [(1000, 0), (1001, 0), (1002, 0)] 3000 hA.2 (by simp) (by simp) ?_ ?_ ?_
            iterate 2 (case _ => simp (disch := omega) only [wP, wZ, undef, seval, if_pos, if_neg, aStore, frz, AV.flat, ↓reduceIte, ne_eq, reduceCtorEq, ByteArray.size, unI, unR, rdR, ren_fxA])
            repeat (first | refine wA ?_ | refine wB ?_ | refine wC rfl ?_ | refine wD rfl ?_ | refine wE ?_ | refine wF (by omega) ?_ | ((first | refine wG ?_ | refine wH ?_ | refine wI ?_ | refine wJ ?_ | refine wK ?_ | refine wL ?_); simp (disch := omega) only [wP, wZ, undef, seval, if_pos, if_neg, aStore, frz, AV.flat, ↓reduceIte, ne_eq, reduceCtorEq, ByteArray.size, unO, unR, rdR, ren_fxA, noI, ansL, houP, de]))
            omega
          have d16 : decide ((sy : Int) = 16) = false := decide_eq_false (by omega)
          by_cases e17 : sy = 17
          · subst e17
            obtain rfl : V = 0 := hV
            obtain rfl : N = 3 := hN1
            obtain rfl : Bt = 3 := hBt
            repeat (first | refine wA ?_ | refine wB ?_ | refine wC rfl ?_ | refine wD rfl ?_ | refine wE ?_ | refine wF (by omega) ?_ | ((first | refine wG ?_ | refine wH ?_ | refine wI ?_ | refine wJ ?_ | refine wK ?_ | refine wL ?_); simp (disch := omega) only [wP, wZ, undef, seval, if_pos, if_neg, aStore, frz, AV.flat, ↓reduceIte, ne_eq, reduceCtorEq, ByteArray.size, unR, treA]))
            refine goC_h [(1001, 0)] 2000 hN (by simp) (by simp) ?_ ?_ ?_
            iterate 2 (case _ => simp (disch := omega) only [wP, wZ, undef, seval, if_pos, if_neg, aStore, frz, AV.flat, ↓reduceIte, ne_eq, reduceCtorEq, ByteArray.size, rdR, ren_tree])
            repeat (first | refine wA ?_ | refine wB ?_ | refine wC rfl ?_ | refine wD rfl ?_ | refine wE ?_ | refine wF (by omega) ?_ | ((first | refine wG ?_ | refine wH ?_ | refine wI ?_ | refine wJ ?_ | refine wK ?_ | refine wL ?_); simp (disch := omega) only [wP, wZ, undef, seval, if_pos, if_neg, aStore, frz, AV.flat, ↓reduceIte, ne_eq, reduceCtorEq, ByteArray.size, unR, rdR]))
            refine goC_h [(1000, 0), (1001, 0), (1002, 0)] 3000 hA.2 (by simp) (by simp) ?_ ?_ ?_
            iterate 2 (case _ => simp (disch := omega) only [wP, wZ, undef, seval, if_pos, if_neg, aStore, frz, AV.flat, ↓reduceIte, ne_eq, reduceCtorEq, ByteArray.size, unI, unR, rdR, ren_fxA])
            repeat (first | refine wA ?_ | refine wB ?_ | refine wC rfl ?_ | refine wD rfl ?_ | refine wE ?_ | refine wF (by omega) ?_ | ((first | refine wG ?_ | refine wH ?_ | refine wI ?_ | refine wJ ?_ | refine wK ?_ | refine wL ?_); simp (disch := omega) only [wP, wZ, undef, seval, if_pos, if_neg, aStore, frz, AV.flat, ↓reduceIte, ne_eq, reduceCtorEq, ByteArray.size, unO, unR, rdR, ren_fxA, noI, ansL, houP, de]))
            omega
          have d17 : decide ((sy : Int) = 17) = false := decide_eq_false (by omega)
          by_cases e18 : sy = 18
          · subst e18
            obtain rfl : V = 0 := hV
            obtain rfl : N = 11 := hN1
            obtain rfl : Bt = 7 := hBt
            repeat (first | refine wA ?_ | refine wB ?_ | refine wC rfl ?_ | refine wD rfl ?_ | refine wE ?_ | refine wF (by omega) ?_ | ((first | refine wG ?_ | refine wH ?_ | refine wI ?_ | refine wJ ?_ | refine wK ?_ | refine wL ?_); simp (disch := omega) only [wP, wZ, undef, seval, if_pos, if_neg, aStore, frz, AV.flat, ↓reduceIte, ne_eq, reduceCtorEq, ByteArray.size, unR, treA]))
            refine goC_h [(1001, 0)] 2000 hN (by simp) (by simp) ?_ ?_ ?_
            iterate 2 (case _ => simp (disch := omega) only [wP, wZ, undef, seval, if_pos, if_neg, aStore, frz, AV.flat, ↓reduceIte, ne_eq, reduceCtorEq, ByteArray.size, rdR, ren_tree])
            repeat (first | refine wA ?_ | refine wB ?_ | refine wC rfl ?_ | refine wD rfl ?_ | refine wE ?_ | refine wF (by omega) ?_ | ((first | refine wG ?_ | refine wH ?_ | refine wI ?_ | refine wJ ?_ | refine wK ?_ | refine wL ?_); simp (disch := omega) only [wP, wZ, undef, seval, if_pos, if_neg, aStore, frz, AV.flat, ↓reduceIte, ne_eq, reduceCtorEq, ByteArray.size, unR, rdR]))
            refine goC_h [(1000, 0), (1001, 0), (1002, 0)] 3000 hA.2 (by simp) (by simp) ?_ ?_ ?_
            iterate 2 (case _ => simp (disch := omega) only [wP, wZ, undef, seval, if_pos, if_neg, aStore, frz, AV.flat, ↓reduceIte, ne_eq, reduceCtorEq, ByteArray.size, unI, unR, rdR, ren_fxA])
            repeat (first | refine wA ?_ | refine wB ?_ | refine wC rfl ?_ | refine wD rfl ?_ | refine wE ?_ | refine wF (by omega) ?_ | ((first | refine wG ?_ | refine wH ?_ | refine wI ?_ | refine wJ ?_ | refine wK ?_ | refine wL ?_); simp (disch := omega) only [wP, wZ, undef, seval, if_pos, if_neg, aStore, frz, AV.flat, ↓reduceIte, ne_eq, reduceCtorEq, ByteArray.size, unO, unR, rdR, ren_fxA, noI, ansL, houP, de]))
            omega
          have d18 : decide ((sy : Int) = 18) = false := decide_eq_false (by omega)
          obtain rfl : V = sy := by rw [hV, lsV, if_neg e16, if_neg (by omega)]
          obtain rfl : N = 1 := by rw [hN1, lsN, if_neg (by omega), if_neg e18]
          obtain rfl : Bt = 0 := by rw [hBt, lsB, if_neg e16, if_neg e17, if_neg e18]
          repeat (first | refine wA ?_ | refine wB ?_ | refine wC rfl ?_ | refine wD rfl ?_ | refine wE ?_ | refine wF (by omega) ?_ | ((first | refine wG ?_ | refine wH ?_ | refine wI ?_ | refine wJ ?_ | refine wK ?_ | refine wL ?_); simp (disch := omega) only [wP, wZ, undef, seval, if_pos, if_neg, aStore, frz, AV.flat, ↓reduceIte, ne_eq, reduceCtorEq, ByteArray.size, unR, treA]))
          refine goC_h [(1001, 0)] 2000 hN (by simp) (by simp) ?_ ?_ ?_
          iterate 2 (case _ => simp (disch := omega) only [wP, wZ, undef, seval, if_pos, if_neg, aStore, frz, AV.flat, ↓reduceIte, ne_eq, reduceCtorEq, ByteArray.size, rdR, ren_tree])
          repeat (first | refine wA ?_ | refine wB ?_ | refine wC rfl ?_ | refine wD rfl ?_ | refine wE ?_ | refine wF (by omega) ?_ | ((first | refine wG ?_ | refine wH ?_ | refine wI ?_ | refine wJ ?_ | refine wK ?_ | refine wL ?_); simp (disch := omega) only [wP, wZ, undef, seval, if_pos, if_neg, aStore, frz, AV.flat, ↓reduceIte, ne_eq, reduceCtorEq, ByteArray.size, unR, rdR, d16, d17, d18]))
          refine goC_h [(1000, 0), (1001, 0), (1002, 0)] 3000 hA.2 (by simp) (by simp) ?_ ?_ ?_
          iterate 2 (case _ => simp (disch := omega) only [wP, wZ, undef, seval, if_pos, if_neg, aStore, frz, AV.flat, ↓reduceIte, ne_eq, reduceCtorEq, ByteArray.size, unI, unR, rdR, ren_fxA])
          repeat (first | refine wA ?_ | refine wB ?_ | refine wC rfl ?_ | refine wD rfl ?_ | refine wE ?_ | refine wF (by omega) ?_ | ((first | refine wG ?_ | refine wH ?_ | refine wI ?_ | refine wJ ?_ | refine wK ?_ | refine wL ?_); simp (disch := omega) only [wP, wZ, undef, seval, if_pos, if_neg, aStore, frz, AV.flat, ↓reduceIte, ne_eq, reduceCtorEq, ByteArray.size, unO, unR, rdR, ren_fxA, noI, ansL, houP, de]))
          omega
        | ok a j =>
          have hj := hAi a j rfl
          have ha := hA2 a j rfl
          rw [length_bitsL] at hj
          simp only [BR.bnd] at hx
          by_cases c3 : n < l.length + a
          · rw [if_pos c3] at hx
            simp only [BT.run] at hx
            subst hx
            have d3 : decide ((n : Int) - (l.length : Int) < (a : Int)) = true := decide_eq_true (by omega)
            by_cases e16 : sy = 16
            · subst e16
              have hl0 : 0 < l.length := List.length_pos_iff.2 fun h => c16 ⟨rfl, h⟩
              have dl : decide ((l.length : Int) = 0) = false := decide_eq_false (by omega)
              obtain ⟨z, hz⟩ : ∃ z, z = l.length - 1 := ⟨_, rfl⟩
              have ez : (l.length : Int) - 1 = (z : Int) := by omega
              have hVz : l.getD z 0 = V := by rw [hV, hz]; rfl
              obtain rfl : N = 3 := hN1
              obtain rfl : Bt = 2 := hBt
              repeat (first | refine wA ?_ | refine wB ?_ | refine wC rfl ?_ | refine wD rfl ?_ | refine wE ?_ | refine wF (by omega) ?_ | ((first | refine wG ?_ | refine wH ?_ | refine wI ?_ | refine wJ ?_ | refine wK ?_ | refine wL ?_); simp (disch := omega) only [wP, wZ, undef, seval, if_pos, if_neg, aStore, frz, AV.flat, ↓reduceIte, ne_eq, reduceCtorEq, ByteArray.size, unR, treA]))
              refine goC_h [(1001, 0)] 2000 hN (by simp) (by simp) ?_ ?_ ?_
              iterate 2 (case _ => simp (disch := omega) only [wP, wZ, undef, seval, if_pos, if_neg, aStore, frz, AV.flat, ↓reduceIte, ne_eq, reduceCtorEq, ByteArray.size, rdR, ren_tree])
              repeat (first | refine wA ?_ | refine wB ?_ | refine wC rfl ?_ | refine wD rfl ?_ | refine wE ?_ | refine wF (by omega) ?_ | ((first | refine wG ?_ | refine wH ?_ | refine wI ?_ | refine wJ ?_ | refine wK ?_ | refine wL ?_); simp (disch := omega) only [wP, wZ, undef, seval, if_pos, if_neg, aStore, frz, AV.flat, ↓reduceIte, ne_eq, reduceCtorEq, ByteArray.size, unR, rdR, dl, ez, iR, hVz]))
              refine goC_h [(1000, 0), (1001, 0), (1002, 0)] 3000 hA (by simp) (by simp) ?_ ?_ ?_
              iterate 2 (case _ => simp (disch := omega) only [wP, wZ, undef, seval, if_pos, if_neg, aStore, frz, AV.flat, ↓reduceIte, ne_eq, reduceCtorEq, ByteArray.size, unI, unR, rdR, ren_fxA])
              repeat (first | refine wA ?_ | refine wB ?_ | refine wC rfl ?_ | refine wD rfl ?_ | refine wE ?_ | refine wF (by omega) ?_ | ((first | refine wG ?_ | refine wH ?_ | refine wI ?_ | refine wJ ?_ | refine wK ?_ | refine wL ?_); simp (disch := omega) only [wP, wZ, undef, seval, if_pos, if_neg, aStore, frz, AV.flat, ↓reduceIte, ne_eq, reduceCtorEq, ByteArray.size, unO, unR, rdR, ren_fxA, okI, ansL, houP, d3]))
              omega
            have d16 : decide ((sy : Int) = 16) = false := decide_eq_false (by omega)
            by_cases e17 : sy = 17
            · subst e17
              obtain rfl : V = 0 := hV
              obtain rfl : N = 3 := hN1
              obtain rfl : Bt = 3 := hBt
              repeat (first | refine wA ?_ | refine wB ?_ | refine wC rfl ?_ | refine wD rfl ?_ | refine wE ?_ | refine wF (by omega) ?_ | ((first | refine wG ?_ | refine wH ?_ | refine wI ?_ | refine wJ ?_ | refine wK ?_ | refine wL ?_); simp (disch := omega) only [wP, wZ, undef, seval, if_pos, if_neg, aStore, frz, AV.flat, ↓reduceIte, ne_eq, reduceCtorEq, ByteArray.size, unR, treA]))
              refine goC_h [(1001, 0)] 2000 hN (by simp) (by simp) ?_ ?_ ?_
              iterate 2 (case _ => simp (disch := omega) only [wP, wZ, undef, seval, if_pos, if_neg, aStore, frz, AV.flat, ↓reduceIte, ne_eq, reduceCtorEq, ByteArray.size, rdR, ren_tree])
              repeat (first | refine wA ?_ | refine wB ?_ | refine wC rfl ?_ | refine wD rfl ?_ | refine wE ?_ | refine wF (by omega) ?_ | ((first | refine wG ?_ | refine wH ?_ | refine wI ?_ | refine wJ ?_ | refine wK ?_ | refine wL ?_); simp (disch := omega) only [wP, wZ, undef, seval, if_pos, if_neg, aStore, frz, AV.flat, ↓reduceIte, ne_eq, reduceCtorEq, ByteArray.size, unR, rdR]))
              refine goC_h [(1000, 0), (1001, 0), (1002, 0)] 3000 hA (by simp) (by simp) ?_ ?_ ?_
              iterate 2 (case _ => simp (disch := omega) only [wP, wZ, undef, seval, if_pos, if_neg, aStore, frz, AV.flat, ↓reduceIte, ne_eq, reduceCtorEq, ByteArray.size, unI, unR, rdR, ren_fxA])
              repeat (first | refine wA ?_ | refine wB ?_ | refine wC rfl ?_ | refine wD rfl ?_ | refine wE ?_ | refine wF (by omega) ?_ | ((first | refine wG ?_ | refine wH ?_ | refine wI ?_ | refine wJ ?_ | refine wK ?_ | refine wL ?_); simp (disch := omega) only [wP, wZ, undef, seval, if_pos, if_neg, aStore, frz, AV.flat, ↓reduceIte, ne_eq, reduceCtorEq, ByteArray.size, unO, unR, rdR, ren_fxA, okI, ansL, houP, d3]))
              omega
            have d17 : decide ((sy : Int) = 17) = false := decide_eq_false (by omega)
            by_cases e18 : sy = 18
            · subst e18
              obtain rfl : V = 0 := hV
              obtain rfl : N = 11 := hN1
              obtain rfl : Bt = 7 := hBt
              repeat (first | refine wA ?_ | refine wB ?_ | refine wC rfl ?_ | refine wD rfl ?_ | refine wE ?_ | refine wF (by omega) ?_ | ((first | refine wG ?_ | refine wH ?_ | refine wI ?_ | refine wJ ?_ | refine wK ?_ | refine wL ?_); simp (disch := omega) only [wP, wZ, undef, seval, if_pos, if_neg, aStore, frz, AV.flat, ↓reduceIte, ne_eq, reduceCtorEq, ByteArray.size, unR, treA]))
              refine goC_h [(1001, 0)] 2000 hN (by simp) (by simp) ?_ ?_ ?_
              iterate 2 (case _ => simp (disch := omega) only [wP, wZ, undef, seval, if_pos, if_neg, aStore, frz, AV.flat, ↓reduceIte, ne_eq, reduceCtorEq, ByteArray.size, rdR, ren_tree])
              repeat (first | refine wA ?_ | refine wB ?_ | refine wC rfl ?_ | refine wD rfl ?_ | refine wE ?_ | refine wF (by omega) ?_ | ((first | refine wG ?_ | refine wH ?_ | refine wI ?_ | refine wJ ?_ | refine wK ?_ | refine wL ?_); simp (disch := omega) only [wP, wZ, undef, seval, if_pos, if_neg, aStore, frz, AV.flat, ↓reduceIte, ne_eq, reduceCtorEq, ByteArray.size, unR, rdR]))
              refine goC_h [(1000, 0), (1001, 0), (1002, 0)] 3000 hA (by simp) (by simp) ?_ ?_ ?_
              iterate 2 (case _ => simp (disch := omega) only [wP, wZ, undef, seval, if_pos, if_neg, aStore, frz, AV.flat, ↓reduceIte, ne_eq, reduceCtorEq, ByteArray.size, unI, unR, rdR, ren_fxA])
              repeat (first | refine wA ?_ | refine wB ?_ | refine wC rfl ?_ | refine wD rfl ?_ | refine wE ?_ | refine wF (by omega) ?_ | ((first | refine wG ?_ | refine wH ?_ | refine wI ?_ | refine wJ ?_ | refine wK ?_ | refine wL ?_); simp (disch := omega) only [wP, wZ, undef, seval, if_pos, if_neg, aStore, frz, AV.flat, ↓reduceIte, ne_eq, reduceCtorEq, ByteArray.size, unO, unR, rdR, ren_fxA, okI, ansL, houP, d3]))
              omega
            have d18 : decide ((sy : Int) = 18) = false := decide_eq_false (by omega)
            obtain rfl : V = sy := by rw [hV, lsV, if_neg e16, if_neg (by omega)]
            obtain rfl : N = 1 := by rw [hN1, lsN, if_neg (by omega), if_neg e18]
            obtain rfl : Bt = 0 := by rw [hBt, lsB, if_neg e16, if_neg e17, if_neg e18]
            exfalso
            omega
          · rw [if_neg c3] at hx
            have d3 : decide ((n : Int) - (l.length : Int) < (a : Int)) = false := decide_eq_false (by omega)
            have hRp := slices_Repeat_c V a (by omega) (by omega)
            have hX : (l ++ List.replicate a V).length = l.length + a := by simp
            have hem : ((List.replicate a V).map nA).isEmpty = false := by
              obtain ⟨a, rfl⟩ : ∃ k, a = k + 1 := ⟨a - 1, by omega⟩
              rfl
            have hXl : (List.replicate a V).length = a := List.length_replicate
            have h18 : ∀ y ∈ l ++ List.replicate a V, y ≤ 18 := by
              intro y hy
              rcases List.mem_append.1 hy with hy | hy
              · exact hl18 y hy
              · rw [(List.mem_replicate.1 hy).2]; exact hV18
            have hn0' : nl0 (l.length + a) = false := nl0_add (by omega)
            obtain ⟨X, hXd⟩ : ∃ X, X = List.replicate a V := ⟨_, rfl⟩
            rw [← hXd] at hRp hx hX hem hXl h18
            by_cases e16 : sy = 16
            · subst e16
              have hl0 : 0 < l.length := List.length_pos_iff.2 fun h => c16 ⟨rfl, h⟩
              have dl : decide ((l.length : Int) = 0) = false := decide_eq_false (by omega)
              obtain ⟨z, hz⟩ : ∃ z, z = l.length - 1 := ⟨_, rfl⟩
              have ez : (l.length : Int) - 1 = (z : Int) := by omega
              have hVz : l.getD z 0 = V := by rw [hV, hz]; rfl
              obtain rfl : N = 3 := hN1
              obtain rfl : Bt = 2 := hBt
              repeat (first | refine wA ?_ | refine wB ?_ | refine wC rfl ?_ | refine wD rfl ?_ | refine wE ?_ | refine wF (by omega) ?_ | ((first | refine wG ?_ | refine wH ?_ | refine wI ?_ | refine wJ ?_ | refine wK ?_ | refine wL ?_); simp (disch := omega) only [wP, wZ, undef, seval, if_pos, if_neg, aStore, frz, AV.flat, ↓reduceIte, ne_eq, reduceCtorEq, ByteArray.size, unR, treA]))
              refine goC_h [(1001, 0)] 2000 hN (by simp) (by simp) ?_ ?_ ?_
              iterate 2 (case _ => simp (disch := omega) only [wP, wZ, undef, seval, if_pos, if_neg, aStore, frz, AV.flat, ↓reduceIte, ne_eq, reduceCtorEq, ByteArray.size, rdR, ren_tree])
              repeat (first | refine wA ?_ | refine wB ?_ | refine wC rfl ?_ | refine wD rfl ?_ | refine wE ?_ | refine wF (by omega) ?_ | ((first | refine wG ?_ | refine wH ?_ | refine wI ?_ | refine wJ ?_ | refine wK ?_ | refine wL ?_); simp (disch := omega) only [wP, wZ, undef, seval, if_pos, if_neg, aStore, frz, AV.flat, ↓reduceIte, ne_eq, reduceCtorEq, ByteArray.size, unR, rdR, dl, ez, iR, hVz]))
              refine goC_h [(1000, 0), (1001, 0), (1002, 0)] 3000 hA (by simp) (by simp) ?_ ?_ ?_
              iterate 2 (case _ => simp (disch := omega) only [wP, wZ, undef, seval, if_pos, if_neg, aStore, frz, AV.flat, ↓reduceIte, ne_eq, reduceCtorEq, ByteArray.size, unI, unR, rdR, ren_fxA])
              repeat (first | refine wA ?_ | refine wB ?_ | refine wC rfl ?_ | refine wD rfl ?_ | refine wE ?_ | refine wF (by omega) ?_ | ((first | refine wG ?_ | refine wH ?_ | refine wI ?_ | refine wJ ?_ | refine wK ?_ | refine wL ?_); simp (disch := omega) only [wP, wZ, undef, seval, if_pos, if_neg, aStore, frz, AV.flat, ↓reduceIte, ne_eq, reduceCtorEq, ByteArray.size, unO, unR, rdR, ren_fxA, okI, d3]))
              refine goC_f 65 (c + 100 + 40) (nl := false) (cells := [nA V]) [.sl false none [.sc (.int .i64 (V : Int))], int (a : Int)] _ (by simp (disch := omega) only [wP, wZ, undef, seval, if_pos, if_neg, aStore, frz, AV.flat, ↓reduceIte, ne_eq, reduceCtorEq, ByteArray.size, nA]) (by simp (disch := omega) only [wP, wZ, undef, seval, if_pos, if_neg, aStore, frz, AV.flat, ↓reduceIte, ne_eq, reduceCtorEq, ByteArray.size, nA]) ?_ (by simp (disch := omega) only [wP, wZ, undef, seval, if_pos, if_neg, aStore, frz, AV.flat, ↓reduceIte, ne_eq, reduceCtorEq, ByteArray.size]) hRp ?_
              · simp (disch := omega) only [wP, wZ, undef, seval, if_pos, if_neg, aStore, frz, AV.flat, ↓reduceIte, ne_eq, reduceCtorEq, ByteArray.size, fR, nA]
              repeat (first | refine wA ?_ | refine wB ?_ | refine wC rfl ?_ | refine wD rfl ?_ | refine wE ?_ | refine wF (by omega) ?_ | ((first | refine wG ?_ | refine wH ?_ | refine wI ?_ | refine wJ ?_ | refine wK ?_ | refine wL ?_); simp (disch := omega) only [wP, wZ, undef, seval, if_pos, if_neg, aStore, frz, AV.flat, ↓reduceIte, ne_eq, reduceCtorEq, ByteArray.size, hX, hXl, hem, Bool.and_false]))
              refine At.of (f, l ++ X, j, c + 100 + 40 + 1, c + 100 + 40 + 2) ⟨hx, hj, by simp only; omega, by simp only; omega, h18, by simp only; omega⟩ (by simp only; omega) rfl rfl ?_ ?_ ?_
              · simp only; omega
              iterate 2 (case _ => simp (disch := omega) only [wP, wZ, undef, seval, if_pos, if_neg, aStore, frz, AV.flat, ↓reduceIte, ne_eq, reduceCtorEq, ByteArray.size, treA, hX, hXl, unR, rdR, hn0'])
            have d16 : decide ((sy : Int) = 16) = false := decide_eq_false (by omega)
            by_cases e17 : sy = 17
            · subst e17
              obtain rfl : V = 0 := hV
              obtain rfl : N = 3 := hN1
              obtain rfl : Bt = 3 := hBt
              repeat (first | refine wA ?_ | refine wB ?_ | refine wC rfl ?_ | refine wD rfl ?_ | refine wE ?_ | refine wF (by omega) ?_ | ((first | refine wG ?_ | refine wH ?_ | refine wI ?_ | refine wJ ?_ | refine wK ?_ | refine wL ?_); simp (disch := omega) only [wP, wZ, undef, seval, if_pos, if_neg, aStore, frz, AV.flat, ↓reduceIte, ne_eq, reduceCtorEq, ByteArray.size, unR, treA]))
              refine goC_h [(1001, 0)] 2000 hN (by simp) (by simp) ?_ ?_ ?_
              iterate 2 (case _ => simp (disch := omega) only [wP, wZ, undef, seval, if_pos, if_neg, aStore, frz, AV.flat, ↓reduceIte, ne_eq, reduceCtorEq, ByteArray.size, rdR, ren_tree])
              repeat (first | refine wA ?_ | refine wB ?_ | refine wC rfl ?_ | refine wD rfl ?_ | refine wE ?_ | refine wF (by omega) ?_ | ((first | refine wG ?_ | refine wH ?_ | refine wI ?_ | refine wJ ?_ | refine wK ?_ | refine wL ?_); simp (disch := omega) only [wP, wZ, undef, seval, if_pos, if_neg, aStore, frz, AV.flat, ↓reduceIte, ne_eq, reduceCtorEq, ByteArray.size, unR, rdR]))
              refine goC_h [(1000, 0), (1001, 0), (1002, 0)] 3000 hA (by simp) (by simp) ?_ ?_ ?_
              iterate 2 (case _ => simp (disch := omega) only [wP, wZ, undef, seval, if_pos, if_neg, aStore, frz, AV.flat, ↓reduceIte, ne_eq, reduceCtorEq, ByteArray.size, unI, unR, rdR, ren_fxA])
              repeat (first | refine wA ?_ | refine wB ?_ | refine wC rfl ?_ | refine wD rfl ?_ | refine wE ?_ | refine wF (by omega) ?_ | ((first | refine wG ?_ | refine wH ?_ | refine wI ?_ | refine wJ ?_ | refine wK ?_ | refine wL ?_); simp (disch := omega) only [wP, wZ, undef, seval, if_pos, if_neg, aStore, frz, AV.flat, ↓reduceIte, ne_eq, reduceCtorEq, ByteArray.size, unO, unR, rdR, ren_fxA, okI, d3]))
              refine goC_f 65 (c + 100 + 40) (nl := false) (cells := [.sc (.int .i64 0)]) [.sl false none [.sc (.int .i64 ((0 : Nat) : Int))], int (a : Int)] _ (by simp (disch := omega) only [wP, wZ, undef, seval, if_pos, if_neg, aStore, frz, AV.flat, ↓reduceIte, ne_eq, reduceCtorEq, ByteArray.size, nA]) (by simp (disch := omega) only [wP, wZ, undef, seval, if_pos, if_neg, aStore, frz, AV.flat, ↓reduceIte, ne_eq, reduceCtorEq, ByteArray.size, nA]) ?_ (by simp (disch := omega) only [wP, wZ, undef, seval, if_pos, if_neg, aStore, frz, AV.flat, ↓reduceIte, ne_eq, reduceCtorEq, ByteArray.size]) hRp ?_
              · simp (disch := omega) only [wP, wZ, undef, seval, if_pos, if_neg, aStore, frz, AV.flat, ↓reduceIte, ne_eq, reduceCtorEq, ByteArray.size, fR, nA]
              repeat (first | refine wA ?_ | refine wB ?_ | refine wC rfl ?_ | refine wD rfl ?_ | refine wE ?_ | refine wF (by omega) ?_ | ((first | refine wG ?_ | refine wH ?_ | refine wI ?_ | refine wJ ?_ | refine wK ?_ | refine wL ?_); simp (disch := omega) only [wP, wZ, undef, seval, if_pos, if_neg, aStore, frz, AV.flat, ↓reduceIte, ne_eq, reduceCtorEq, ByteArray.size, hX, hXl, hem, Bool.and_false]))
              refine At.of (f, l ++ X, j, c + 100 + 40 + 1, c + 100 + 40 + 2) ⟨hx, hj, by simp only; omega, by simp only; omega, h18, by simp only; omega⟩ (by simp only; omega) rfl rfl ?_ ?_ ?_
              · simp only; omega
              iterate 2 (case _ => simp (disch := omega) only [wP, wZ, undef, seval, if_pos, if_neg, aStore, frz, AV.flat, ↓reduceIte, ne_eq, reduceCtorEq, ByteArray.size, treA, hX, hXl, unR, rdR, hn0'])
            have d17 : decide ((sy : Int) = 17) = false := decide_eq_false (by omega)
            by_cases e18 : sy = 18
            · subst e18
              obtain rfl : V = 0 := hV
              obtain rfl : N = 11 := hN1
              obtain rfl : Bt = 7 := hBt
              repeat (first | refine wA ?_ | refine wB ?_ | refine wC rfl ?_ | refine wD rfl ?_ | refine wE ?_ | refine wF (by omega) ?_ | ((first | refine wG ?_ | refine wH ?_ | refine wI ?_ | refine wJ ?_ | refine wK ?_ | refine wL ?_); simp (disch := omega) only [wP, wZ, undef, seval, if_pos, if_neg, aStore, frz, AV.flat, ↓reduceIte, ne_eq, reduceCtorEq, ByteArray.size, unR, treA]))
              refine goC_h [(1001, 0)] 2000 hN (by simp) (by simp) ?_ ?_ ?_
              iterate 2 (case _ => simp (disch := omega) only [wP, wZ, undef, seval, if_pos, if_neg, aStore, frz, AV.flat, ↓reduceIte, ne_eq, reduceCtorEq, ByteArray.size, rdR, ren_tree])
              repeat (first | refine wA ?_ | refine wB ?_ | refine wC rfl ?_ | refine wD rfl ?_ | refine wE ?_ | refine wF (by omega) ?_ | ((first | refine wG ?_ | refine wH ?_ | refine wI ?_ | refine wJ ?_ | refine wK ?_ | refine wL ?_); simp (disch := omega) only [wP, wZ, undef, seval, if_pos, if_neg, aStore, frz, AV.flat, ↓reduceIte, ne_eq, reduceCtorEq, ByteArray.size, unR, rdR]))
              refine goC_h [(1000, 0), (1001, 0), (1002, 0)] 3000 hA (by simp) (by simp) ?_ ?_ ?_
              iterate 2 (case _ => simp (disch := omega) only [wP, wZ, undef, seval, if_pos, if_neg, aStore, frz, AV.flat, ↓reduceIte, ne_eq, reduceCtorEq, ByteArray.size, unI, unR, rdR, ren_fxA])
              repeat (first | refine wA ?_ | refine wB ?_ | refine wC rfl ?_ | refine wD rfl ?_ | refine wE ?_ | refine wF (by omega) ?_ | ((first | refine wG ?_ | refine wH ?_ | refine wI ?_ | refine wJ ?_ | refine wK ?_ | refine wL ?_); simp (disch := omega) only [wP, wZ, undef, seval, if_pos, if_neg, aStore, frz, AV.flat, ↓reduceIte, ne_eq, reduceCtorEq, ByteArray.size, unO, unR, rdR, ren_fxA, okI, d3]))
              refine goC_f 65 (c + 100 + 40) (nl := false) (cells := [.sc (.int .i64 0)]) [.sl false none [.sc (.int .i64 ((0 : Nat) : Int))], int (a : Int)] _ (by simp (disch := omega) only [wP, wZ, undef, seval, if_pos, if_neg, aStore, frz, AV.flat, ↓reduceIte, ne_eq, reduceCtorEq, ByteArray.size, nA]) (by simp (disch := omega) only [wP, wZ, undef, seval, if_pos, if_neg, aStore, frz, AV.flat, ↓reduceIte, ne_eq, reduceCtorEq, ByteArray.size, nA]) ?_ (by simp (disch := omega) only [wP, wZ, undef, seval, if_pos, if_neg, aStore, frz, AV.flat, ↓reduceIte, ne_eq, reduceCtorEq, ByteArray.size]) hRp ?_
              · simp (disch := omega) only [wP, wZ, undef, seval, if_pos, if_neg, aStore, frz, AV.flat, ↓reduceIte, ne_eq, reduceCtorEq, ByteArray.size, fR, nA]
              repeat (first | refine wA ?_ | refine wB ?_ | refine wC rfl ?_ | refine wD rfl ?_ | refine wE ?_ | refine wF (by omega) ?_ | ((first | refine wG ?_ | refine wH ?_ | refine wI ?_ | refine wJ ?_ | refine wK ?_ | refine wL ?_); simp (disch := omega) only [wP, wZ, undef, seval, if_pos, if_neg, aStore, frz, AV.flat, ↓reduceIte, ne_eq, reduceCtorEq, ByteArray.size, hX, hXl, hem, Bool.and_false]))
              refine At.of (f, l ++ X, j, c + 100 + 40 + 1, c + 100 + 40 + 2) ⟨hx, hj, by simp only; omega, by simp only; omega, h18, by simp only; omega⟩ (by simp only; omega) rfl rfl ?_ ?_ ?_
              · simp only; omega
              iterate 2 (case _ => simp (disch := omega) only [wP, wZ, undef, seval, if_pos, if_neg, aStore, frz, AV.flat, ↓reduceIte, ne_eq, reduceCtorEq, ByteArray.size, treA, hX, hXl, unR, rdR, hn0'])
            have d18 : decide ((sy : Int) = 18) = false := decide_eq_false (by omega)
            obtain rfl : V = sy := by rw [hV, lsV, if_neg e16, if_neg (by omega)]
            obtain rfl : N = 1 := by rw [hN1, lsN, if_neg (by omega), if_neg e18]
            obtain rfl : Bt = 0 := by rw [hBt, lsB, if_neg e16, if_neg e17, if_neg e18]
            repeat (first | refine wA ?_ | refine wB ?_ | refine wC rfl ?_ | refine wD rfl ?_ | refine wE ?_ | refine wF (by omega) ?_ | ((first | refine wG ?_ | refine wH ?_ | refine wI ?_ | refine wJ ?_ | refine wK ?_ | refine wL ?_); simp (disch := omega) only [wP, wZ, undef, seval, if_pos, if_neg, aStore, frz, AV.flat, ↓reduceIte, ne_eq, reduceCtorEq, ByteArray.size, unR, treA]))
            refine goC_h [(1001, 0)] 2000 hN (by simp) (by simp) ?_ ?_ ?_
            iterate 2 (case _ => simp (disch := omega) only [wP, wZ, undef, seval, if_pos, if_neg, aStore, frz, AV.flat, ↓reduceIte, ne_eq, reduceCtorEq, ByteArray.size, rdR, ren_tree])
            repeat (first | refine wA ?_ | refine wB ?_ | refine wC rfl ?_ | refine wD rfl ?_ | refine wE ?_ | refine wF (by omega) ?_ | ((first | refine wG ?_ | refine wH ?_ | refine wI ?_ | refine wJ ?_ | refine wK ?_ | refine wL ?_); simp (disch := omega) only [wP, wZ, undef, seval, if_pos, if_neg, aStore, frz, AV.flat, ↓reduceIte, ne_eq, reduceCtorEq, ByteArray.size, unR, rdR, d16, d17, d18]))
            refine goC_h [(1000, 0), (1001, 0), (1002, 0)] 3000 hA (by simp) (by simp) ?_ ?_ ?_
            iterate 2 (case _ => simp (disch := omega) only [wP, wZ, undef, seval, if_pos, if_neg, aStore, frz, AV.flat, ↓reduceIte, ne_eq, reduceCtorEq, ByteArray.size, unI, unR, rdR, ren_fxA])
            repeat (first | refine wA ?_ | refine wB ?_ | refine wC rfl ?_ | refine wD rfl ?_ | refine wE ?_ | refine wF (by omega) ?_ | ((first | refine wG ?_ | refine wH ?_ | refine wI ?_ | refine wJ ?_ | refine wK ?_ | refine wL ?_); simp (disch := omega) only [wP, wZ, undef, seval, if_pos, if_neg, aStore, frz, AV.flat, ↓reduceIte, ne_eq, reduceCtorEq, ByteArray.size, unO, unR, rdR, ren_fxA, okI, d3]))
            refine goC_f 65 (c + 100 + 40) (nl := false) (cells := [nA V]) [.sl false none [.sc (.int .i64 (V : Int))], int (a : Int)] _ (by simp (disch := omega) only [wP, wZ, undef, seval, if_pos, if_neg, aStore, frz, AV.flat, ↓reduceIte, ne_eq, reduceCtorEq, ByteArray.size, nA]) (by simp (disch := omega) only [wP, wZ, undef, seval, if_pos, if_neg, aStore, frz, AV.flat, ↓reduceIte, ne_eq, reduceCtorEq, ByteArray.size, nA]) ?_ (by simp (disch := omega) only [wP, wZ, undef, seval, if_pos, if_neg, aStore, frz, AV.flat, ↓reduceIte, ne_eq, reduceCtorEq, ByteArray.size]) hRp ?_
            · simp (disch := omega) only [wP, wZ, undef, seval, if_pos, if_neg, aStore, frz, AV.flat, ↓reduceIte, ne_eq, reduceCtorEq, ByteArray.size, fR, nA]
            repeat (first | refine wA ?_ | refine wB ?_ | refine wC rfl ?_ | refine wD rfl ?_ | refine wE ?_ | refine wF (by omega) ?_ | ((first | refine wG ?_ | refine wH ?_ | refine wI ?_ | refine wJ ?_ | refine wK ?_ | refine wL ?_); simp (disch := omega) only [wP, wZ, undef, seval, if_pos, if_neg, aStore, frz, AV.flat, ↓reduceIte, ne_eq, reduceCtorEq, ByteArray.size, hX, hXl, hem, Bool.and_false]))
            refine At.of (f, l ++ X, j, c + 100 + 40 + 1, c + 100 + 40 + 2) ⟨hx, hj, by simp only; omega, by simp only; omega, h18, by simp only; omega⟩ (by simp only; omega) rfl rfl ?_ ?_ ?_
            · simp only; omega
            iterate 2 (case _ => simp (disch := omega) only [wP, wZ, undef, seval, if_pos, if_neg, aStore, frz, AV.flat, ↓reduceIte, ne_eq, reduceCtorEq, ByteArray.size, treA, hX, hXl, unR, rdR, hn0'])
    · simp only [nxtR, if_neg c2, BR.bnd] at hx
      have de : decide ((e : Int) = 0) = false := decide_eq_false (by omega)
      subst hx
      repeat (first | refine wA ?_ | refine wB ?_ | refine wC rfl ?_ | refine wD rfl ?_ | refine wE ?_ | refine wF (by omega) ?_ | ((first | refine wG ?_ | refine wH ?_ | refine wI ?_ | refine wJ ?_ | refine wK ?_ | refine wL ?_); simp (disch := omega) only [wP, wZ, undef, seval, if_pos, if_neg, aStore, frz, AV.flat, ↓reduceIte, ne_eq, reduceCtorEq, ByteArray.size, unR, treA]))
      refine goC_h [(1001, 0)] 2000 hN (by simp) (by simp) ?_ ?_ ?_
      iterate 2 (case _ => simp (disch := omega) only [wP, wZ, undef, seval, if_pos, if_neg, aStore, frz, AV.flat, ↓reduceIte, ne_eq, reduceCtorEq, ByteArray.size, rdR, ren_tree])
      repeat (first | refine wA ?_ | refine wB ?_ | refine wC rfl ?_ | refine wD rfl ?_ | refine wE ?_ | refine wF (by omega) ?_ | ((first | refine wG ?_ | refine wH ?_ | refine wI ?_ | refine wJ ?_ | refine wK ?_ | refine wL ?_); simp (disch := omega) only [wP, wZ, undef, seval, if_pos, if_neg, aStore, frz, AV.flat, ↓reduceIte, ne_eq, reduceCtorEq, ByteArray.size, ansL, houP, de]))
      omega
  · simp only [decide_eq_false_iff_not] at h
    have hle : n ≤ l.length := by omega
    rw [if_pos hle] at hx
    simp only [BT.run] at hx
    subst hx
    have hn1 : nl0 l.length = false := nl0_pos (by omega)
    have htk : l.take l.length = l := List.take_length
    refine SWp.frzo 8 g (nl := false) (cells := l.map nA) (by simp (disch := omega) only [wP, wZ, undef, seval, if_pos, if_neg, aStore, frz, AV.flat, ↓reduceIte, ne_eq, reduceCtorEq, ByteArray.size, hn1]) free_nA ?_
    refine SWp.le (le_mk (N := 70) (gc := c) (l := [(8, .sl false none (l.map nA))]) (h := [(1000, 0, .row false (unR t most 0 out.length)), (1001, 0, .row false (rdR nl b p)), (1002, 0, .row (nl0 out.length) (out.map u8))]) rfl ?_ ?_ ?_) ?_
    · exact Nat.le_refl _
    iterate 2 (case _ => simp (disch := omega) only [wP, wZ, undef, seval, if_pos, if_neg, aStore, frz, AV.flat, ↓reduceIte, ne_eq, reduceCtorEq, ByteArray.size, fR, iR, htk, unR, rdR, fzo_fxA, false_and])
    repeat (first | refine wA ?_ | refine wB ?_ | refine wC rfl ?_ | refine wD rfl ?_ | refine wE ?_ | refine wF (by omega) ?_ | ((first | refine wG ?_ | refine wH ?_ | refine wI ?_ | refine wJ ?_ | refine wK ?_ | refine wL ?_); simp (disch := omega) only [wP, wZ, undef, seval, if_pos, if_neg, aStore, frz, AV.flat, ↓reduceIte, ne_eq, reduceCtorEq, ByteArray.size, ansL, houP, unO, unR, rdR]))
    omega
end Go.Proofs.YtbcncdpaigljeaaGreatDoor.Aw
namespace Go.Proofs.YtbcncdpaigljeaaGreatDoor.Aw
open Go
set_option linter.unusedSimpArgs false
set_option linter.unusedVariables false
theorem lsT_ok {b : List UInt8} {th : List Nat} {n : Nat} (hth : th.length = 19) : ∀ (f : Nat) (l : List Nat) (i : Nat) (ls : List Nat) (j : Nat), l.length ≤ n → (∀ y ∈ l, y ≤ 15) → i ≤ 8 * b.length → (lsT th n f l).run (bitsL b) i = .ok ls j → ls.length = n ∧ ∀ y ∈ ls, y ≤ 15 := by
  intro f
  induction f with
  | zero => intro l i ls j _ _ _ h; simp [lsT, BT.run] at h
  | succ f ih =>
    intro l i ls j hl h15 hi h
    rw [lsT] at h
    by_cases c : n ≤ l.length
    · rw [if_pos c] at h
      simp only [BT.run, BR.ok.injEq] at h
      obtain ⟨rfl, rfl⟩ := h
      exact ⟨by omega, h15⟩
    · rw [if_neg c, run_bnd] at h
      have hrn := run_nxt (l := th) (B := bitsL b) (i := i)
      have hsy := nxt_sym (l := th) (B := (bitsL b).drop i) 15 0 0
      cases h1 : (nxtT th 15 0 0).run (bitsL b) i with
      | no e => rw [h1] at h; cases h
      | ok s k =>
        rw [h1] at h
        have hk := (run_ok h1).2 (by rw [length_bitsL]; exact hi)
        rw [length_bitsL] at hk
        rw [h1, nxtR] at hrn
        split at hrn
        · rename_i e0
          simp only [BR.ok.injEq] at hrn
          have hs := (hsy e0).1
          rw [← hrn.1, hth] at hs
          simp only [BR.bnd] at h
          by_cases c2 : s = 16 ∧ l = []
          · rw [if_pos c2] at h; simp [BT.run] at h
          · rw [if_neg c2, run_bnd] at h
            cases h2 : (plusT (lsN s) (lsB s)).run (bitsL b) k with
            | no e => rw [h2] at h; cases h
            | ok t k2 =>
              rw [h2] at h
              have hk2 := (run_ok h2).2 (by rw [length_bitsL]; exact hk)
              rw [length_bitsL] at hk2
              simp only [BR.bnd] at h
              by_cases c3 : n < l.length + t
              · rw [if_pos c3] at h; simp [BT.run] at h
              · rw [if_neg c3] at h
                refine ih _ _ _ _ (by rw [List.length_append, List.length_replicate]; omega) ?_ hk2 h
                intro y hy
                rcases List.mem_append.1 hy with hy | hy
                · exact h15 y hy
                · rw [(List.mem_replicate.1 hy).2]
                  unfold lsV
                  split
                  · rename_i e16
                    have hne : l ≠ [] := fun h => c2 ⟨e16, h⟩
                    have h0 : l.length - 1 < l.length := by have := List.length_pos_iff.2 hne; omega
                    have : l.getD (l.length - 1) 0 = l[l.length - 1] := by simp [List.getD, List.getElem?_eq_getElem h0]
                    rw [this]; exact h15 _ (List.getElem_mem h0)
                  · split
                    · omega
                    · omega
        · cases hrn
theorem tlrT_ok {b : List UInt8} {n i j : Nat} {th : List Nat} (hi : i ≤ 8 * b.length) (h : (tlrT n).run (bitsL b) i = .ok th j) : th.length = 19 ∧ fulN th = true := by
  rw [tlrT, run_bnd] at h
  cases h1 : (telT n 0 (List.replicate 19 0)).run (bitsL b) i with
  | no e => rw [h1] at h; cases h
  | ok t k =>
    rw [h1] at h
    simp only [BR.bnd] at h
    have h2 := telT_ok n 0 i k _ t (by simp) (by simp) hi h1
    by_cases c : fulN t = true
    · rw [if_pos c] at h
      simp only [BT.run, BR.ok.injEq] at h
      rw [← h.1]
      exact ⟨h2.1, c⟩
    · rw [if_neg c] at h; simp [BT.run] at h
theorem codN_ok {l d : List Nat} (h : codN l d = true) : l.length ≤ 320 ∧ kraft l ≤ 32768 ∧ kraft d ≤ 32768 := by
  simp only [codN, Bool.and_eq_true] at h
  have h2 := h.1.2
  simp only [fulN, decide_eq_true_eq] at h2
  exact ⟨h2.1, by omega, fewN_kraft h.2⟩
theorem tolT_ok {b : List UInt8} {i j : Nat} {p : List Nat × List Nat} (hi : i ≤ 8 * b.length) (h : tolT.run (bitsL b) i = .ok p j) : p.1.length ≤ 320 ∧ kraft p.1 ≤ 32768 ∧ p.2.length ≤ 320 ∧ kraft p.2 ≤ 32768 := by
  rw [tolT, run_bnd, run_num hi] at h
  split at h
  · rename_i c1
    simp only [BR.bnd] at h
    split at h
    · simp [BT.run] at h
    · rename_i c2
      rw [run_bnd] at h
      cases h1 : (tlrT (numAt b i 14 / 1024 + 4)).run (bitsL b) (i + 14) with
      | no e => rw [h1] at h; cases h
      | ok th k =>
        rw [h1] at h
        have hk := (run_ok h1).2 (by rw [length_bitsL]; exact c1)
        rw [length_bitsL] at hk
        simp only [BR.bnd] at h
        rw [run_bnd] at h
        cases h2 : (lsT th (numAt b i 14 % 32 + 257 + (numAt b i 14 / 32 % 32 + 1)) 400 []).run (bitsL b) k with
        | no e => rw [h2] at h; cases h
        | ok ls k2 =>
          rw [h2] at h
          have hls := lsT_ok (tlrT_ok c1 h1).1 400 [] k ls k2 (Nat.zero_le _) (by simp) hk h2
          simp only [BR.bnd] at h
          split at h
          · rename_i c3
            simp only [BT.run, BR.ok.injEq] at h
            obtain ⟨rfl, -⟩ := h
            have := codN_ok c3
            refine ⟨this.1, this.2.1, ?_, this.2.2⟩
            rw [List.length_drop]; omega
          · simp [BT.run] at h
  · cases h
set_option maxHeartbeats 1000000 in
set_option maxRecDepth 100000 in
theorem inf_toldCodes_h [Tabs Tryz.prog] (ht : Tabs.tab Tryz.prog 1 = some (tells.map nA)) (t : Bool) (most : Nat) (nl : Bool) (b : List UInt8) (hb : b.length ≤ 1000000) (i : Nat) (hi : i ≤ 8 * b.length) (out : List UInt8) (r : BR (List Nat × List Nat)) (hr : tolT.run (bitsL b) i = r) :
    HCon Tryz.prog n_inflate_unpacker_toldCodes [.op 1000 0 0] (unI t most nl b i out) (ansP (fun p => cds p.1 p.2) r) (houP t most nl b out r) 600000 := by
  refine HCon.of' mix Tryz.func59 rfl Tryz.ntmps59 e_inflate_unpacker_toldCodes r_inflate_unpacker_toldCodes (by simp) (by simp [AV.gl, AV.gl.glL, int]) un_gl ?_
  unfold s_inflate_unpacker_toldCodes
  rw [tolT, run_bnd, run_num hi] at hr
  by_cases c1 : i + 14 ≤ 8 * b.length
  · rw [if_pos c1] at hr
    simp only [BR.bnd] at hr
    have hT := huff_Take_h nl b hb i hi 14 (by omega) c1
    have hcl := numAt_lt (b := b) (i := i) (n := 14)
    obtain ⟨c, hc⟩ : ∃ c, c = numAt b i 14 := ⟨_, rfl⟩
    rw [← hc] at hT hr hcl
    obtain ⟨L, hL⟩ : ∃ L, L = c % 32 + 257 := ⟨_, rfl⟩
    obtain ⟨D, hD⟩ : ∃ D, D = c / 32 % 32 + 1 := ⟨_, rfl⟩
    obtain ⟨N, hN⟩ : ∃ N, N = c / 1024 + 4 := ⟨_, rfl⟩
    rw [← hL, ← hD, ← hN] at hr
    have eL : ((c % 32 : Nat) : Int) + 257 = (L : Int) := by omega
    have eD : ((c / 32 % 32 : Nat) : Int) + 1 = (D : Int) := by omega
    have eN : ((c / 1024 : Nat) : Int) + 4 = (N : Int) := by omega
    repeat (first | refine wA ?_ | refine wB ?_ | refine wC rfl ?_ | refine wD rfl ?_ | refine wE ?_ | refine wF (by omega) ?_ | ((first | refine wG ?_ | refine wH ?_ | refine wI ?_ | refine wJ ?_ | refine wK ?_ | refine wL ?_); simp (disch := omega) only [wP, wZ, undef, seval, if_pos, if_neg, aStore, frz, AV.flat, ↓reduceIte, ne_eq, reduceCtorEq, ByteArray.size, unI, unR]))
    refine goC_h [(1001, 0)] 2000 hT (by simp) (by simp) ?_ ?_ ?_
    iterate 2 (case _ => simp (disch := omega) only [wP, wZ, undef, seval, if_pos, if_neg, aStore, frz, AV.flat, ↓reduceIte, ne_eq, reduceCtorEq, ByteArray.size, rdR])
    by_cases c2 : 286 < L ∨ 30 < D
    · rw [if_pos c2] at hr
      simp only [BT.run] at hr
      subst hr
      by_cases c3 : 286 < L
      · have d3 : decide ((286 : Int) < (L : Int)) = true := decide_eq_true (by omega)
        repeat (first | refine wA ?_ | refine wB ?_ | refine wC rfl ?_ | refine wD rfl ?_ | refine wE ?_ | refine wF (by omega) ?_ | ((first | refine wG ?_ | refine wH ?_ | refine wI ?_ | refine wJ ?_ | refine wK ?_ | refine wL ?_); simp (disch := omega) only [wP, wZ, undef, seval, if_pos, if_neg, aStore, frz, AV.flat, ↓reduceIte, ne_eq, reduceCtorEq, ByteArray.size, unR, rdR, eL, eD, d3, ansP, houP]))
      · have d3 : decide ((286 : Int) < (L : Int)) = false := decide_eq_false (by omega)
        have d4 : decide ((30 : Int) < (D : Int)) = true := decide_eq_true (by omega)
        repeat (first | refine wA ?_ | refine wB ?_ | refine wC rfl ?_ | refine wD rfl ?_ | refine wE ?_ | refine wF (by omega) ?_ | ((first | refine wG ?_ | refine wH ?_ | refine wI ?_ | refine wJ ?_ | refine wK ?_ | refine wL ?_); simp (disch := omega) only [wP, wZ, undef, seval, if_pos, if_neg, aStore, frz, AV.flat, ↓reduceIte, ne_eq, reduceCtorEq, ByteArray.size, unR, rdR, eL, eD, d3, d4, ansP, houP]))
    · rw [if_neg c2, run_bnd] at hr
      have d3 : decide ((286 : Int) < (L : Int)) = false := decide_eq_false (by omega)
      have d4 : decide ((30 : Int) < (D : Int)) = false := decide_eq_false (by omega)
      repeat (first | refine wA ?_ | refine wB ?_ | refine wC rfl ?_ | refine wD rfl ?_ | refine wE ?_ | refine wF (by omega) ?_ | ((first | refine wG ?_ | refine wH ?_ | refine wI ?_ | refine wJ ?_ | refine wK ?_ | refine wL ?_); simp (disch := omega) only [wP, wZ, undef, seval, if_pos, if_neg, aStore, frz, AV.flat, ↓reduceIte, ne_eq, reduceCtorEq, ByteArray.size, unR, rdR, eL, eD, eN, d3, d4]))
      have hTe := inf_teller_h ht t most nl b hb (i + 14) c1 out N (by omega) _ rfl
      have hTi := fun a j (h : (tlrT N).run (bitsL b) (i + 14) = .ok a j) => And.intro ((run_ok h).2 (by rw [length_bitsL]; exact c1)) (tlrT_ok c1 h)
      have hTs := fun e (h : (tlrT N).run (bitsL b) (i + 14) = .no e) => safe_run safe_tlr h
      obtain ⟨r1, hr1⟩ : ∃ r1, r1 = (tlrT N).run (bitsL b) (i + 14) := ⟨_, rfl⟩
      rw [← hr1] at hTe hTi hTs hr
      refine goC_h [(1000, 0), (1001, 0), (1002, 0)] 3000 hTe (by simp) (by simp) ?_ ?_ ?_
      iterate 2 (case _ => simp (disch := omega) only [wP, wZ, undef, seval, if_pos, if_neg, aStore, frz, AV.flat, ↓reduceIte, ne_eq, reduceCtorEq, ByteArray.size, unI, unR, rdR, ren_fxA])
      cases r1 with
      | no e =>
        simp only [BR.bnd] at hr
        subst hr
        have he := hTs e rfl
        have de : decide ((e : Int) = 0) = false := decide_eq_false (by omega)
        repeat (first | refine wA ?_ | refine wB ?_ | refine wC rfl ?_ | refine wD rfl ?_ | refine wE ?_ | refine wF (by omega) ?_ | ((first | refine wG ?_ | refine wH ?_ | refine wI ?_ | refine wJ ?_ | refine wK ?_ | refine wL ?_); simp (disch := omega) only [wP, wZ, undef, seval, if_pos, if_neg, aStore, frz, AV.flat, ↓reduceIte, ne_eq, reduceCtorEq, ByteArray.size, unR, rdR, ansP, houP, de]))
      | ok th j =>
        obtain ⟨hj, hth, hfu⟩ := hTi th j rfl
        rw [length_bitsL] at hj
        simp only [BR.bnd] at hr
        rw [run_bnd] at hr
        have hK : kraft th ≤ 32768 := by simp only [fulN, decide_eq_true_eq] at hfu; omega
        have hLs := inf_lengths_h t most nl b hb j hj out th hth hK (L + D) (by omega) (by omega) _ rfl
        have hLi := fun a q (h : (lsT th (L + D) 400 []).run (bitsL b) j = .ok a q) => lsT_ok hth 400 [] j a q (Nat.zero_le _) (by simp) hj h
        have hLe := fun e (h : (lsT th (L + D) 400 []).run (bitsL b) j = .no e) => safe_run (safe_ls _ _) h
        obtain ⟨r2, hr2⟩ : ∃ r2, r2 = (lsT th (L + D) 400 []).run (bitsL b) j := ⟨_, rfl⟩
        rw [← hr2] at hLs hLi hLe hr
        repeat (first | refine wA ?_ | refine wB ?_ | refine wC rfl ?_ | refine wD rfl ?_ | refine wE ?_ | refine wF (by omega) ?_ | ((first | refine wG ?_ | refine wH ?_ | refine wI ?_ | refine wJ ?_ | refine wK ?_ | refine wL ?_); simp (disch := omega) only [wP, wZ, undef, seval, if_pos, if_neg, aStore, frz, AV.flat, ↓reduceIte, ne_eq, reduceCtorEq, ByteArray.size, unR, rdR, ansP, houP, unO, ren_fxA, ren_treA]))
        refine goC_h [(1000, 0), (1001, 0), (1002, 0)] 4000 hLs (by simp) (by simp) ?_ ?_ ?_
        iterate 2 (case _ => simp (disch := omega) only [wP, wZ, undef, seval, if_pos, if_neg, aStore, frz, AV.flat, ↓reduceIte, ne_eq, reduceCtorEq, ByteArray.size, unI, unR, rdR, ren_fxA, ren_treA])
        cases r2 with
        | no e =>
          simp only [BR.bnd] at hr
          subst hr
          have he := hLe e rfl
          have de : decide ((e : Int) = 0) = false := decide_eq_false (by omega)
          repeat (first | refine wA ?_ | refine wB ?_ | refine wC rfl ?_ | refine wD rfl ?_ | refine wE ?_ | refine wF (by omega) ?_ | ((first | refine wG ?_ | refine wH ?_ | refine wI ?_ | refine wJ ?_ | refine wK ?_ | refine wL ?_); simp (disch := omega) only [wP, wZ, undef, seval, if_pos, if_neg, aStore, frz, AV.flat, ↓reduceIte, ne_eq, reduceCtorEq, ByteArray.size, unR, rdR, ansL, ansP, houP, de]))
        | ok ls q =>
          obtain ⟨hll, h15⟩ := hLi ls q rfl
          simp only [BR.bnd] at hr
          have hCo := inf_codesOf_h false false (ls.take L) (ls.drop L) (fun x hx => h15 x (List.mem_of_mem_take hx)) (fun x hx => h15 x (List.mem_of_mem_drop hx)) (by rw [List.length_take]; omega) (by rw [List.length_take]; omega) (by rw [List.length_drop]; omega)
          have hLL : (L : Int) ≤ ((ls.length : Nat) : Int) := by omega
          repeat (first | refine wA ?_ | refine wB ?_ | refine wC rfl ?_ | refine wD rfl ?_ | refine wE ?_ | refine wF (by omega) ?_ | ((first | refine wG ?_ | refine wH ?_ | refine wI ?_ | refine wJ ?_ | refine wK ?_ | refine wL ?_); simp (disch := omega) only [wP, wZ, undef, seval, if_pos, if_neg, aStore, frz, AV.flat, ↓reduceIte, ne_eq, reduceCtorEq, ByteArray.size, unR, rdR, ansL, ansP, houP, unO, ren_fxA, iR]))
          by_cases c5 : codN (ls.take L) (ls.drop L) = true
          · rw [if_pos c5] at hr hCo
            simp only [BT.run] at hr
            subst hr
            refine goC_p _ (.inl ⟨by simp only [AV.free, AV.free.freeL, free_nA, Bool.and_self], hCo⟩) ?_
            repeat (first | refine wA ?_ | refine wB ?_ | refine wC rfl ?_ | refine wD rfl ?_ | refine wE ?_ | refine wF (by omega) ?_ | ((first | refine wG ?_ | refine wH ?_ | refine wI ?_ | refine wJ ?_ | refine wK ?_ | refine wL ?_); simp (disch := omega) only [wP, wZ, undef, seval, if_pos, if_neg, aStore, frz, AV.flat, ↓reduceIte, ne_eq, reduceCtorEq, ByteArray.size, unR, rdR, ansL, ansP, houP, unO, ren_fxA, iR]))
            all_goals trace_state
          · rw [if_neg c5] at hr hCo
            simp only [BT.run] at hr
            subst hr
            refine goC_p _ (.inl ⟨by simp only [AV.free, AV.free.freeL, free_nA, Bool.and_self], hCo⟩) ?_
            repeat (first | refine wA ?_ | refine wB ?_ | refine wC rfl ?_ | refine wD rfl ?_ | refine wE ?_ | refine wF (by omega) ?_ | ((first | refine wG ?_ | refine wH ?_ | refine wI ?_ | refine wJ ?_ | refine wK ?_ | refine wL ?_); simp (disch := omega) only [wP, wZ, undef, seval, if_pos, if_neg, aStore, frz, AV.flat, ↓reduceIte, ne_eq, reduceCtorEq, ByteArray.size, unR, rdR, ansL, ansP, houP, unO, ren_fxA, iR]))
  · rw [if_neg c1] at hr
    simp only [BR.bnd] at hr
    subst hr
    have hT := huff_Take_no nl b hb i hi 14 (decide_eq_false (by omega))
    repeat (first | refine wA ?_ | refine wB ?_ | refine wC rfl ?_ | refine wD rfl ?_ | refine wE ?_ | refine wF (by omega) ?_ | ((first | refine wG ?_ | refine wH ?_ | refine wI ?_ | refine wJ ?_ | refine wK ?_ | refine wL ?_); simp (disch := omega) only [wP, wZ, undef, seval, if_pos, if_neg, aStore, frz, AV.flat, ↓reduceIte, ne_eq, reduceCtorEq, ByteArray.size, unI, unR]))
    refine goC_h [(1001, 0)] 2000 hT (by simp) (by simp) ?_ ?_ ?_
    iterate 2 (case _ => simp (disch := omega) only [wP, wZ, undef, seval, if_pos, if_neg, aStore, frz, AV.flat, ↓reduceIte, ne_eq, reduceCtorEq, ByteArray.size, rdR])
    repeat (first | refine wA ?_ | refine wB ?_ | refine wC rfl ?_ | refine wD rfl ?_ | refine wE ?_ | refine wF (by omega) ?_ | ((first | refine wG ?_ | refine wH ?_ | refine wI ?_ | refine wJ ?_ | refine wK ?_ | refine wL ?_); simp (disch := omega) only [wP, wZ, undef, seval, if_pos, if_neg, aStore, frz, AV.flat, ↓reduceIte, ne_eq, reduceCtorEq, ByteArray.size, unR, rdR, ansP, houP]))
end Go.Proofs.YtbcncdpaigljeaaGreatDoor.Aw
namespace Go.Proofs.YtbcncdpaigljeaaGreatDoor.Aw
open Go
set_option linter.unusedSimpArgs false
set_option linter.unusedVariables false
theorem ren_cdsU {ρ : Nat → Nat → Nat × Nat} {l d : List Nat} : ren ρ (.fp (.agg [.fp (.agg (trR l)) 0, .fp (.agg (trR d)) 0]) 0) = .fp (.agg [.fp (.agg (trR l)) 0, .fp (.agg (trR d)) 0]) 0 := ren_cds
theorem fxA_true : fxA true = cds fixL fixD := rfl
theorem fxA_false : fxA false = .sc (.pointer none) := rfl
theorem cells_cds {l d : List Nat} : cellsA (cds l d) = some [cds l d] := rfl
def bitB (b : List UInt8) (i : Nat) : Bool := decide (i + 3 ≤ 8 * b.length) && decide (numAt b i 3 % 2 = 1)
def ansB (b : List UInt8) (i : Nat) : BR (Bool × List UInt8) → AV
  | .ok p _ => .tup [boo p.1, int 0]
  | .no e => .tup [boo (bitB b i), int (e : Int)]
def fxN (t : Bool) (b : List UInt8) (i : Nat) : Bool := t || decide (numAt b i 3 / 2 = 1)
def houB (K : Nat) (t : Bool) (most : Nat) (nl : Bool) (b : List UInt8) (i : Nat) : BR (Bool × List UInt8) → List (Nat × Nat × AO)
  | .ok p j => unO K (fxN t b i) most nl b j p.2
  | .no _ => []
def KB (F : Nat) : Nat := 1000 * F + 700000
set_option maxHeartbeats 2000000 in
set_option maxRecDepth 100000 in
theorem inf_block_h [Tabs Tryz.prog] (ht : Tabs.tab Tryz.prog 1 = some (tells.map nA)) (t : Bool) (most : Nat) (hm : most ≤ 16777216) (nl : Bool) (b : List UInt8) (hb : b.length ≤ 1000000) (hnl : nl = true → b = []) (i : Nat) (hi : i ≤ 8 * b.length) (out : List UInt8) (ho : out.length ≤ most) (F : Nat) (hF : 8 * b.length < F) (r : BR (Bool × List UInt8)) (hr : (blkT most F out).run (bitsL b) i = r) :
    HCon Tryz.prog n_inflate_unpacker_block [.op 1000 0 0] (unI t most nl b i out) (ansB b i r) (houB (KB F) t most nl b i r) (KB F + 1) := by
  refine HCon.of' mix Tryz.func26 rfl Tryz.ntmps26 e_inflate_unpacker_block r_inflate_unpacker_block (by simp) (by simp [AV.gl, AV.gl.glL, int]) un_gl ?_
  unfold s_inflate_unpacker_block
  rw [blkT, run_bnd, run_num hi] at hr
  by_cases c1 : i + 3 ≤ 8 * b.length
  · rw [if_pos c1] at hr
    simp only [BR.bnd] at hr
    rw [run_bnd] at hr
    have hT := huff_Take_h nl b hb i hi 3 (by omega) c1
    have h7 := numAt3 (b := b) (i := i)
    have hbit : bitB b i = decide (numAt b i 3 % 2 = 1) := by rw [bitB, decide_eq_true c1, Bool.true_and]
    have hfx : fxN t b i = (t || decide (numAt b i 3 / 2 = 1)) := rfl
    obtain ⟨h, hh⟩ : ∃ h, h = numAt b i 3 := ⟨_, rfl⟩
    rw [← hh] at hT hr h7 hbit hfx
    have hlast : decide (((h % 2 : Nat) : Int) = 1) = decide (h % 2 = 1) := decide_eq_decide.2 (by omega)
    have hl2 : decide ((h : Int) = 1) = decide (h = 1) := decide_eq_decide.2 (by omega)
    repeat (first | refine wA ?_ | refine wB ?_ | refine wC rfl ?_ | refine wD rfl ?_ | refine wE ?_ | refine wF (by omega) ?_ | ((first | refine wG ?_ | refine wH ?_ | refine wI ?_ | refine wJ ?_ | refine wK ?_ | refine wL ?_); simp (disch := omega) only [wP, wZ, undef, seval, if_pos, if_neg, aStore, frz, AV.flat, ↓reduceIte, ne_eq, reduceCtorEq, ByteArray.size, unI, unR]))
    refine goC_h [(1001, 0)] 2000 hT (by simp) (by simp) ?_ ?_ ?_
    iterate 2 (case _ => simp (disch := omega) only [wP, wZ, undef, seval, if_pos, if_neg, aStore, frz, AV.flat, ↓reduceIte, ne_eq, reduceCtorEq, ByteArray.size, rdR])
    have hse := fun e (q : (bodT most F out (h / 2)).run (bitsL b) (i + 3) = .no e) => safe_run safe_bod q
    obtain ⟨r1, hr1⟩ : ∃ r1, (bodT most F out (h / 2)).run (bitsL b) (i + 3) = r1 := ⟨_, rfl⟩
    rw [hr1] at hr hse
    rw [bodT] at hr1
    obtain ⟨p, hp⟩ : ∃ p, p = h / 2 := ⟨_, rfl⟩
    rw [← hp] at hr1 hfx
    by_cases k0 : p = 0
    · rw [if_pos k0] at hr1
      subst k0
      have hfx : fxN t b i = t := by rw [hfx]; simp
      have hS := inf_stored_h t most hm nl b hb hnl (i + 3) c1 out ho r1 hr1
      repeat (first | refine wA ?_ | refine wB ?_ | refine wC rfl ?_ | refine wD rfl ?_ | refine wE ?_ | refine wF (by omega) ?_ | ((first | refine wG ?_ | refine wH ?_ | refine wI ?_ | refine wJ ?_ | refine wK ?_ | refine wL ?_); simp (disch := omega) only [wP, wZ, undef, seval, if_pos, if_neg, aStore, frz, AV.flat, ↓reduceIte, ne_eq, reduceCtorEq, ByteArray.size, unR, rdR, ← hp, Nat.pow_one]))
      refine goC_h [(1000, 0), (1001, 0), (1002, 0)] 3000 hS (by simp) (by simp) ?_ ?_ ?_
      iterate 2 (case _ => simp (disch := omega) only [wP, wZ, undef, seval, if_pos, if_neg, aStore, frz, AV.flat, ↓reduceIte, ne_eq, reduceCtorEq, ByteArray.size, unI, unR, rdR, ren_fxA])
      cases r1 with
      | no e =>
        simp only [BR.bnd] at hr
        subst hr
        repeat (first | refine wA ?_ | refine wB ?_ | refine wC rfl ?_ | refine wD rfl ?_ | refine wE ?_ | refine wF (by omega) ?_ | ((first | refine wG ?_ | refine wH ?_ | refine wI ?_ | refine wJ ?_ | refine wK ?_ | refine wL ?_); simp (disch := omega) only [wP, wZ, undef, seval, if_pos, if_neg, aStore, frz, AV.flat, ↓reduceIte, ne_eq, reduceCtorEq, ByteArray.size, ansE, houS, ansB, houB, hlast, hl2, hbit]))
        simp only [KB]; omega
      | ok o j =>
        simp only [BR.bnd, BT.run] at hr
        subst hr
        iterate 1 (first | refine wA ?_ | refine wB ?_ | refine wC rfl ?_ | refine wD rfl ?_ | refine wE ?_ | refine wF (by omega) ?_ | ((first | refine wG ?_ | refine wH ?_ | refine wI ?_ | refine wJ ?_ | refine wK ?_ | refine wL ?_); simp (disch := omega) only [wP, wZ, undef, seval, if_pos, if_neg, aStore, frz, AV.flat, ↓reduceIte, ne_eq, reduceCtorEq, ByteArray.size, ansE, houS, unO, unR, rdR, ren_fxA, ren_cds]))
        refine SWp.le (le_mk (N := 56) (gc := KB F) (l := [(3, int 0), (4, int (h : Int))]) (h := [(1000, 0, .row false (unR t most 104 o.length)), (1001, 0, .row false (rdR nl b j)), (1002, 104, .row (nl0 o.length) (o.map u8))]) rfl ?_ ?_ ?_) ?_
        · simp only [KB]; omega
        iterate 2 (case _ => simp (disch := omega) only [wP, wZ, undef, seval, if_pos, if_neg, aStore, frz, AV.flat, ↓reduceIte, ne_eq, reduceCtorEq, ByteArray.size, unR, rdR, fxA_true])
        refine SWp.renew 1002 104 (o := .row (nl0 o.length) (o.map u8)) (by simp (disch := omega) only [wP, wZ, undef, seval, if_pos, if_neg, aStore, frz, AV.flat, ↓reduceIte, ne_eq, reduceCtorEq, ByteArray.size]) ?_
        refine SWp.le (le_mk (N := 56) (gc := KB F + 1) (l := [(3, int 0), (4, int (h : Int))]) (h := [(1000, 0, .row false (unR t most (KB F) o.length)), (1001, 0, .row false (rdR nl b j)), (1002, KB F, .row (nl0 o.length) (o.map u8))]) rfl ?_ ?_ ?_) ?_
        · exact Nat.le_refl _
        iterate 2 (case _ => simp (disch := omega) only [wP, wZ, undef, seval, if_pos, if_neg, aStore, frz, AV.flat, ↓reduceIte, ne_eq, reduceCtorEq, ByteArray.size, rgn_eq, rgH_at, unR, rdR, ren_fxA, ren_cds, fxA_true])
        repeat (first | refine wA ?_ | refine wB ?_ | refine wC rfl ?_ | refine wD rfl ?_ | refine wE ?_ | refine wF (by omega) ?_ | ((first | refine wG ?_ | refine wH ?_ | refine wI ?_ | refine wJ ?_ | refine wK ?_ | refine wL ?_); simp (disch := omega) only [wP, wZ, undef, seval, if_pos, if_neg, aStore, frz, AV.flat, ↓reduceIte, ne_eq, reduceCtorEq, ByteArray.size, ansB, houB, unO, unR, rdR, hfx, hlast, hl2]))
    · rw [if_neg k0] at hr1
      have d0 : decide ((p : Int) = 0) = false := decide_eq_false (by omega)
      by_cases k1 : p = 1
      · rw [if_pos k1] at hr1
        subst k1
        have hfx : fxN t b i = true := by rw [hfx]; simp
        have hS := inf_symbols_h true most hm nl b hb (i + 3) c1 out ho fixL fixD (by rw [fixL_facts.2.1]; omega) (by rw [fixL_facts.2.2]; omega) (by rw [fixD_facts.2.1]; omega) (by rw [fixD_facts.2.2]; omega) F (by omega) r1 hr1
        cases t with
        | true =>
          repeat (first | refine wA ?_ | refine wB ?_ | refine wC rfl ?_ | refine wD rfl ?_ | refine wE ?_ | refine wF (by omega) ?_ | ((first | refine wG ?_ | refine wH ?_ | refine wI ?_ | refine wJ ?_ | refine wK ?_ | refine wL ?_); simp (disch := omega) only [wP, wZ, undef, seval, if_pos, if_neg, aStore, frz, AV.flat, ↓reduceIte, ne_eq, reduceCtorEq, ByteArray.size, unR, rdR, ← hp, Nat.pow_one, fxA_true, cds]))
          refine goC_h [(1000, 0), (1001, 0), (1002, 0)] 3000 hS (by simp) (by simp) ?_ ?_ ?_
          iterate 2 (case _ => simp (disch := omega) only [wP, wZ, undef, seval, if_pos, if_neg, aStore, frz, AV.flat, ↓reduceIte, ne_eq, reduceCtorEq, ByteArray.size, unI, unR, rdR, ren_cdsU, fxA_true, cds])
          cases r1 with
          | no e =>
            simp only [BR.bnd] at hr
            subst hr
            repeat (first | refine wA ?_ | refine wB ?_ | refine wC rfl ?_ | refine wD rfl ?_ | refine wE ?_ | refine wF (by omega) ?_ | ((first | refine wG ?_ | refine wH ?_ | refine wI ?_ | refine wJ ?_ | refine wK ?_ | refine wL ?_); simp (disch := omega) only [wP, wZ, undef, seval, if_pos, if_neg, aStore, frz, AV.flat, ↓reduceIte, ne_eq, reduceCtorEq, ByteArray.size, ansE, houS, ansB, houB, hlast, hl2, hbit]))
            simp only [KB]; omega
          | ok o j =>
            simp only [BR.bnd, BT.run] at hr
            subst hr
            iterate 1 (first | refine wA ?_ | refine wB ?_ | refine wC rfl ?_ | refine wD rfl ?_ | refine wE ?_ | refine wF (by omega) ?_ | ((first | refine wG ?_ | refine wH ?_ | refine wI ?_ | refine wJ ?_ | refine wK ?_ | refine wL ?_); simp (disch := omega) only [wP, wZ, undef, seval, if_pos, if_neg, aStore, frz, AV.flat, ↓reduceIte, ne_eq, reduceCtorEq, ByteArray.size, ansE, houS, unO, unR, rdR, fxA_true, cds, ren_cdsU]))
            refine SWp.le (le_mk (N := 56) (gc := KB F) (l := [(3, int 0), (4, int (h : Int))]) (h := [(1000, 0, .row false (unR true most ((31 + (1000 * F + 1))) o.length)), (1001, 0, .row false (rdR nl b j)), (1002, (31 + (1000 * F + 1)), .row (nl0 o.length) (o.map u8))]) rfl ?_ ?_ ?_) ?_
            · simp only [KB]; omega
            iterate 2 (case _ => simp (disch := omega) only [wP, wZ, undef, seval, if_pos, if_neg, aStore, frz, AV.flat, ↓reduceIte, ne_eq, reduceCtorEq, ByteArray.size, unR, rdR, fxA_true, cds])
            refine SWp.renew 1002 ((31 + (1000 * F + 1))) (o := .row (nl0 o.length) (o.map u8)) (by simp (disch := omega) only [wP, wZ, undef, seval, if_pos, if_neg, aStore, frz, AV.flat, ↓reduceIte, ne_eq, reduceCtorEq, ByteArray.size]) ?_
            refine SWp.le (le_mk (N := 56) (gc := KB F + 1) (l := [(3, int 0), (4, int (h : Int))]) (h := [(1000, 0, .row false (unR true most (KB F) o.length)), (1001, 0, .row false (rdR nl b j)), (1002, KB F, .row (nl0 o.length) (o.map u8))]) rfl ?_ ?_ ?_) ?_
            · exact Nat.le_refl _
            iterate 2 (case _ => simp (disch := omega) only [wP, wZ, undef, seval, if_pos, if_neg, aStore, frz, AV.flat, ↓reduceIte, ne_eq, reduceCtorEq, ByteArray.size, rgn_eq, rgH_at, unR, rdR, fxA_true, cds, ren_cdsU])
            repeat (first | refine wA ?_ | refine wB ?_ | refine wC rfl ?_ | refine wD rfl ?_ | refine wE ?_ | refine wF (by omega) ?_ | ((first | refine wG ?_ | refine wH ?_ | refine wI ?_ | refine wJ ?_ | refine wK ?_ | refine wL ?_); simp (disch := omega) only [wP, wZ, undef, seval, if_pos, if_neg, aStore, frz, AV.flat, ↓reduceIte, ne_eq, reduceCtorEq, ByteArray.size, ansB, houB, unO, unR, rdR, fxA_true, cds, hfx, hlast, hl2]))
        | false =>
          repeat (first | refine wA ?_ | refine wB ?_ | refine wC rfl ?_ | refine wD rfl ?_ | refine wE ?_ | refine wF (by omega) ?_ | ((first | refine wG ?_ | refine wH ?_ | refine wI ?_ | refine wJ ?_ | refine wK ?_ | refine wL ?_); simp (disch := omega) only [wP, wZ, undef, seval, if_pos, if_neg, aStore, frz, AV.flat, ↓reduceIte, ne_eq, reduceCtorEq, ByteArray.size, unR, rdR, ← hp, Nat.pow_one, fxA_false]))
          refine goC_p _ (.inl ⟨rfl, inf_fixedCodes_c⟩) ?_
          repeat (first | refine wA ?_ | refine wB ?_ | refine wC rfl ?_ | refine wD rfl ?_ | refine wE ?_ | refine wF (by omega) ?_ | ((first | refine wG ?_ | refine wH ?_ | refine wI ?_ | refine wJ ?_ | refine wK ?_ | refine wL ?_); simp (disch := omega) only [wP, wZ, undef, seval, if_pos, if_neg, aStore, frz, AV.flat, ↓reduceIte, ne_eq, reduceCtorEq, ByteArray.size, unR, rdR, cells_cds]))
          refine goC_h [(1000, 0), (1001, 0), (1002, 0)] 3000 hS (by simp) (by simp) ?_ ?_ ?_
          iterate 2 (case _ => simp (disch := omega) only [wP, wZ, undef, seval, if_pos, if_neg, aStore, frz, AV.flat, ↓reduceIte, ne_eq, reduceCtorEq, ByteArray.size, unI, unR, rdR, ren_cds, fxA_true])
          cases r1 with
          | no e =>
            simp only [BR.bnd] at hr
            subst hr
            repeat (first | refine wA ?_ | refine wB ?_ | refine wC rfl ?_ | refine wD rfl ?_ | refine wE ?_ | refine wF (by omega) ?_ | ((first | refine wG ?_ | refine wH ?_ | refine wI ?_ | refine wJ ?_ | refine wK ?_ | refine wL ?_); simp (disch := omega) only [wP, wZ, undef, seval, if_pos, if_neg, aStore, frz, AV.flat, ↓reduceIte, ne_eq, reduceCtorEq, ByteArray.size, ansE, houS, ansB, houB, hlast, hl2, hbit]))
            simp only [KB]; omega
          | ok o j =>
            simp only [BR.bnd, BT.run] at hr
            subst hr
            iterate 1 (first | refine wA ?_ | refine wB ?_ | refine wC rfl ?_ | refine wD rfl ?_ | refine wE ?_ | refine wF (by omega) ?_ | ((first | refine wG ?_ | refine wH ?_ | refine wI ?_ | refine wJ ?_ | refine wK ?_ | refine wL ?_); simp (disch := omega) only [wP, wZ, undef, seval, if_pos, if_neg, aStore, frz, AV.flat, ↓reduceIte, ne_eq, reduceCtorEq, ByteArray.size, ansE, houS, unO, unR, rdR, ren_fxA, ren_cds]))
            refine SWp.le (le_mk (N := 56) (gc := KB F) (l := [(3, int 0), (4, int (h : Int))]) (h := [(1000, 0, .row false (unR true most ((31 + (1000 * F + 1))) o.length)), (1001, 0, .row false (rdR nl b j)), (1002, (31 + (1000 * F + 1)), .row (nl0 o.length) (o.map u8))]) rfl ?_ ?_ ?_) ?_
            · simp only [KB]; omega
            iterate 2 (case _ => simp (disch := omega) only [wP, wZ, undef, seval, if_pos, if_neg, aStore, frz, AV.flat, ↓reduceIte, ne_eq, reduceCtorEq, ByteArray.size, unR, rdR, fxA_true])
            refine SWp.renew 1002 ((31 + (1000 * F + 1))) (o := .row (nl0 o.length) (o.map u8)) (by simp (disch := omega) only [wP, wZ, undef, seval, if_pos, if_neg, aStore, frz, AV.flat, ↓reduceIte, ne_eq, reduceCtorEq, ByteArray.size]) ?_
            refine SWp.le (le_mk (N := 56) (gc := KB F + 1) (l := [(3, int 0), (4, int (h : Int))]) (h := [(1000, 0, .row false (unR true most (KB F) o.length)), (1001, 0, .row false (rdR nl b j)), (1002, KB F, .row (nl0 o.length) (o.map u8))]) rfl ?_ ?_ ?_) ?_
            · exact Nat.le_refl _
            iterate 2 (case _ => simp (disch := omega) only [wP, wZ, undef, seval, if_pos, if_neg, aStore, frz, AV.flat, ↓reduceIte, ne_eq, reduceCtorEq, ByteArray.size, rgn_eq, rgH_at, unR, rdR, ren_fxA, ren_cds, fxA_true])
            repeat (first | refine wA ?_ | refine wB ?_ | refine wC rfl ?_ | refine wD rfl ?_ | refine wE ?_ | refine wF (by omega) ?_ | ((first | refine wG ?_ | refine wH ?_ | refine wI ?_ | refine wJ ?_ | refine wK ?_ | refine wL ?_); simp (disch := omega) only [wP, wZ, undef, seval, if_pos, if_neg, aStore, frz, AV.flat, ↓reduceIte, ne_eq, reduceCtorEq, ByteArray.size, ansB, houB, unO, unR, rdR, hfx, hlast, hl2]))
      · rw [if_neg k1] at hr1
        have d1 : decide ((p : Int) = 1) = false := decide_eq_false (by omega)
        rw [decide_eq_false k1, Bool.or_false] at hfx
        by_cases k2 : p = 2
        · rw [if_pos k2] at hr1
          subst k2
          rw [run_bnd] at hr1
          have hTo := inf_toldCodes_h ht t most nl b hb (i + 3) c1 out _ rfl
          have hTi := fun a j (q : tolT.run (bitsL b) (i + 3) = .ok a j) => And.intro ((run_ok q).2 (by rw [length_bitsL]; exact c1)) (tolT_ok c1 q)
          have hTs := fun e (q : tolT.run (bitsL b) (i + 3) = .no e) => safe_run safe_tol q
          obtain ⟨r2, hr2⟩ : ∃ r2, r2 = tolT.run (bitsL b) (i + 3) := ⟨_, rfl⟩
          rw [← hr2] at hTo hTi hTs hr1
          repeat (first | refine wA ?_ | refine wB ?_ | refine wC rfl ?_ | refine wD rfl ?_ | refine wE ?_ | refine wF (by omega) ?_ | ((first | refine wG ?_ | refine wH ?_ | refine wI ?_ | refine wJ ?_ | refine wK ?_ | refine wL ?_); simp (disch := omega) only [wP, wZ, undef, seval, if_pos, if_neg, aStore, frz, AV.flat, ↓reduceIte, ne_eq, reduceCtorEq, ByteArray.size, unR, rdR, ← hp, Nat.pow_one, d0, d1]))
          refine goC_h [(1000, 0), (1001, 0), (1002, 0)] 3000 hTo (by simp) (by simp) ?_ ?_ ?_
          iterate 2 (case _ => simp (disch := omega) only [wP, wZ, undef, seval, if_pos, if_neg, aStore, frz, AV.flat, ↓reduceIte, ne_eq, reduceCtorEq, ByteArray.size, unI, unR, rdR, ren_fxA])
          cases r2 with
          | no e =>
            have he := hTs e rfl
            have de : decide ((e : Int) = 0) = false := decide_eq_false (by omega)
            simp only [BR.bnd] at hr1
            subst hr1
            simp only [BR.bnd] at hr
            subst hr
            repeat (first | refine wA ?_ | refine wB ?_ | refine wC rfl ?_ | refine wD rfl ?_ | refine wE ?_ | refine wF (by omega) ?_ | ((first | refine wG ?_ | refine wH ?_ | refine wI ?_ | refine wJ ?_ | refine wK ?_ | refine wL ?_); simp (disch := omega) only [wP, wZ, undef, seval, if_pos, if_neg, aStore, frz, AV.flat, ↓reduceIte, ne_eq, reduceCtorEq, ByteArray.size, ansP, houP, ansB, houB, hlast, hl2, hbit, de]))
            simp only [KB]; omega
          | ok q j2 =>
            obtain ⟨hj2, hl, hKl, hd, hKd⟩ := hTi q j2 rfl
            rw [length_bitsL] at hj2
            simp only [BR.bnd] at hr1
            have hS := inf_symbols_h t most hm nl b hb j2 hj2 out ho q.1 q.2 hl hKl hd hKd F (by omega) r1 hr1
            repeat (first | refine wA ?_ | refine wB ?_ | refine wC rfl ?_ | refine wD rfl ?_ | refine wE ?_ | refine wF (by omega) ?_ | ((first | refine wG ?_ | refine wH ?_ | refine wI ?_ | refine wJ ?_ | refine wK ?_ | refine wL ?_); simp (disch := omega) only [wP, wZ, undef, seval, if_pos, if_neg, aStore, frz, AV.flat, ↓reduceIte, ne_eq, reduceCtorEq, ByteArray.size, ansP, houP, unO, unR, rdR, ren_fxA, ren_cds]))
            refine goC_h [(1000, 0), (1001, 0), (1002, 0)] 4000 hS (by simp) (by simp) ?_ ?_ ?_
            iterate 2 (case _ => simp (disch := omega) only [wP, wZ, undef, seval, if_pos, if_neg, aStore, frz, AV.flat, ↓reduceIte, ne_eq, reduceCtorEq, ByteArray.size, unI, unR, rdR, ren_fxA, ren_cds])
            cases r1 with
            | no e =>
              simp only [BR.bnd] at hr
              subst hr
              repeat (first | refine wA ?_ | refine wB ?_ | refine wC rfl ?_ | refine wD rfl ?_ | refine wE ?_ | refine wF (by omega) ?_ | ((first | refine wG ?_ | refine wH ?_ | refine wI ?_ | refine wJ ?_ | refine wK ?_ | refine wL ?_); simp (disch := omega) only [wP, wZ, undef, seval, if_pos, if_neg, aStore, frz, AV.flat, ↓reduceIte, ne_eq, reduceCtorEq, ByteArray.size, ansE, houS, ansB, houB, hlast, hl2, hbit]))
              simp only [KB]; omega
            | ok o j =>
              simp only [BR.bnd, BT.run] at hr
              subst hr
              iterate 1 (first | refine wA ?_ | refine wB ?_ | refine wC rfl ?_ | refine wD rfl ?_ | refine wE ?_ | refine wF (by omega) ?_ | ((first | refine wG ?_ | refine wH ?_ | refine wI ?_ | refine wJ ?_ | refine wK ?_ | refine wL ?_); simp (disch := omega) only [wP, wZ, undef, seval, if_pos, if_neg, aStore, frz, AV.flat, ↓reduceIte, ne_eq, reduceCtorEq, ByteArray.size, ansE, houS, unO, unR, rdR, ren_fxA, ren_cds]))
              refine SWp.le (le_mk (N := 56) (gc := KB F) (l := [(3, int 0), (4, int (h : Int))]) (h := [(1000, 0, .row false (unR t most ((600031 + (1000 * F + 1))) o.length)), (1001, 0, .row false (rdR nl b j)), (1002, (600031 + (1000 * F + 1)), .row (nl0 o.length) (o.map u8))]) rfl ?_ ?_ ?_) ?_
              · simp only [KB]; omega
              iterate 2 (case _ => simp (disch := omega) only [wP, wZ, undef, seval, if_pos, if_neg, aStore, frz, AV.flat, ↓reduceIte, ne_eq, reduceCtorEq, ByteArray.size, unR, rdR, fxA_true])
              refine SWp.renew 1002 ((600031 + (1000 * F + 1))) (o := .row (nl0 o.length) (o.map u8)) (by simp (disch := omega) only [wP, wZ, undef, seval, if_pos, if_neg, aStore, frz, AV.flat, ↓reduceIte, ne_eq, reduceCtorEq, ByteArray.size]) ?_
              refine SWp.le (le_mk (N := 56) (gc := KB F + 1) (l := [(3, int 0), (4, int (h : Int))]) (h := [(1000, 0, .row false (unR t most (KB F) o.length)), (1001, 0, .row false (rdR nl b j)), (1002, KB F, .row (nl0 o.length) (o.map u8))]) rfl ?_ ?_ ?_) ?_
              · exact Nat.le_refl _
              iterate 2 (case _ => simp (disch := omega) only [wP, wZ, undef, seval, if_pos, if_neg, aStore, frz, AV.flat, ↓reduceIte, ne_eq, reduceCtorEq, ByteArray.size, rgn_eq, rgH_at, unR, rdR, ren_fxA, ren_cds, fxA_true])
              repeat (first | refine wA ?_ | refine wB ?_ | refine wC rfl ?_ | refine wD rfl ?_ | refine wE ?_ | refine wF (by omega) ?_ | ((first | refine wG ?_ | refine wH ?_ | refine wI ?_ | refine wJ ?_ | refine wK ?_ | refine wL ?_); simp (disch := omega) only [wP, wZ, undef, seval, if_pos, if_neg, aStore, frz, AV.flat, ↓reduceIte, ne_eq, reduceCtorEq, ByteArray.size, ansB, houB, unO, unR, rdR, hfx, hlast, hl2]))
        · rw [if_neg k2] at hr1
          simp only [BT.run] at hr1
          subst hr1
          simp only [BR.bnd] at hr
          subst hr
          have d2 : decide ((p : Int) = 2) = false := decide_eq_false (by omega)
          repeat (first | refine wA ?_ | refine wB ?_ | refine wC rfl ?_ | refine wD rfl ?_ | refine wE ?_ | refine wF (by omega) ?_ | ((first | refine wG ?_ | refine wH ?_ | refine wI ?_ | refine wJ ?_ | refine wK ?_ | refine wL ?_); simp (disch := omega) only [wP, wZ, undef, seval, if_pos, if_neg, aStore, frz, AV.flat, ↓reduceIte, ne_eq, reduceCtorEq, ByteArray.size, unR, rdR, ← hp, Nat.pow_one, d0, d1, d2, ansB, houB, hlast, hl2, hbit]))
          simp only [KB]; omega
  · rw [if_neg c1] at hr
    simp only [BR.bnd] at hr
    subst hr
    have hbit : bitB b i = false := by rw [bitB, decide_eq_false c1, Bool.false_and]
    have hT := huff_Take_no nl b hb i hi 3 (decide_eq_false (by omega))
    repeat (first | refine wA ?_ | refine wB ?_ | refine wC rfl ?_ | refine wD rfl ?_ | refine wE ?_ | refine wF (by omega) ?_ | ((first | refine wG ?_ | refine wH ?_ | refine wI ?_ | refine wJ ?_ | refine wK ?_ | refine wL ?_); simp (disch := omega) only [wP, wZ, undef, seval, if_pos, if_neg, aStore, frz, AV.flat, ↓reduceIte, ne_eq, reduceCtorEq, ByteArray.size, unI, unR]))
    refine goC_h [(1001, 0)] 2000 hT (by simp) (by simp) ?_ ?_ ?_
    iterate 2 (case _ => simp (disch := omega) only [wP, wZ, undef, seval, if_pos, if_neg, aStore, frz, AV.flat, ↓reduceIte, ne_eq, reduceCtorEq, ByteArray.size, rdR])
    repeat (first | refine wA ?_ | refine wB ?_ | refine wC rfl ?_ | refine wD rfl ?_ | refine wE ?_ | refine wF (by omega) ?_ | ((first | refine wG ?_ | refine wH ?_ | refine wI ?_ | refine wJ ?_ | refine wK ?_ | refine wL ?_); simp (disch := omega) only [wP, wZ, undef, seval, if_pos, if_neg, aStore, frz, AV.flat, ↓reduceIte, ne_eq, reduceCtorEq, ByteArray.size, unR, rdR, ansB, houB, hbit]))
    simp only [KB]; omega
end Go.Proofs.YtbcncdpaigljeaaGreatDoor.Aw
namespace Go.Proofs.YtbcncdpaigljeaaGreatDoor.Aw
open Go
set_option linter.unusedSimpArgs false
set_option linter.unusedVariables false
theorem rho_h2g {p q r : Nat × Nat} {hs : List (Nat × Nat)} {D c g : Nat} (h : g ≠ 0) : rho (p :: q :: r :: hs) D c 1002 g = (r.1, c + g) := by simp [rho, handed, h]
theorem symT_le {b : List UInt8} {l d : List Nat} {most : Nat} : ∀ {f : Nat} {out o : List UInt8} {i j : Nat}, out.length ≤ most → (symT l d most f out).run (bitsL b) i = .ok o j → o.length ≤ most := by
  intro f
  induction f with
  | zero => intro out o i j _ h; simp [symT, BT.run] at h
  | succ f ih =>
    intro out o i j ho h
    rw [symT, run_bnd] at h
    cases h1 : (nxtT l 15 0 0).run (bitsL b) i with
    | no e => rw [h1] at h; cases h
    | ok s k =>
      rw [h1] at h
      simp only [BR.bnd] at h
      by_cases c : s < 256
      · rw [if_pos c] at h
        by_cases c2 : most ≤ out.length
        · rw [if_pos c2] at h; simp [BT.run] at h
        · rw [if_neg c2] at h
          exact ih (by rw [List.length_append, List.length_singleton]; omega) h
      · rw [if_neg c] at h
        by_cases c2 : s = 256
        · rw [if_pos c2] at h
          simp only [BT.run, BR.ok.injEq] at h
          rw [← h.1]; exact ho
        · rw [if_neg c2, run_bnd] at h
          cases h2 : (runT most d out (s - 257)).run (bitsL b) k with
          | no e => rw [h2] at h; cases h
          | ok o2 k2 =>
            rw [h2] at h
            exact ih (runT_le h2) h
theorem bytT_len {b : List UInt8} {n : Nat} : ∀ {bs : List UInt8} {i j : Nat}, (bytT n).run (bitsL b) i = .ok bs j → bs.length = n := by
  induction n with
  | zero => intro bs i j h; simp only [bytT, BT.run, BR.ok.injEq] at h; rw [← h.1]; rfl
  | succ n ih =>
    intro bs i j h
    rw [bytT, run_bnd] at h
    cases h1 : (numT 8).run (bitsL b) i with
    | no e => rw [h1] at h; cases h
    | ok x k =>
      rw [h1] at h
      simp only [BR.bnd, run_bnd] at h
      cases h2 : (bytT n).run (bitsL b) k with
      | no e => rw [h2] at h; cases h
      | ok r k2 =>
        have := ih h2
        rw [h2] at h
        simp only [BR.bnd, BT.run, BR.ok.injEq] at h
        rw [← h.1, List.length_cons, this]
theorem bodT_le {b : List UInt8} {most F h : Nat} {out o : List UInt8} {i j : Nat} (ho : out.length ≤ most) (q : (bodT most F out h).run (bitsL b) i = .ok o j) : o.length ≤ most := by
  unfold bodT at q
  split at q
  · simp only [stoT, BT.run, run_bnd] at q
    cases h1 : (numT ((i + 7) / 8 * 8 - i)).run (bitsL b) i with
    | no e => rw [h1] at q; cases q
    | ok s k =>
      rw [h1] at q
      simp only [BR.bnd, run_bnd] at q
      cases h2 : (numT 16).run (bitsL b) k with
      | no e => rw [h2] at q; cases q
      | ok n k2 =>
        rw [h2] at q
        simp only [BR.bnd, run_bnd] at q
        cases h3 : (numT 16).run (bitsL b) k2 with
        | no e => rw [h3] at q; cases q
        | ok m k3 =>
          rw [h3] at q
          simp only [BR.bnd] at q
          split at q
          · simp [BT.run] at q
          · rw [run_bnd] at q
            cases h4 : (bytT n).run (bitsL b) k3 with
            | no e => rw [h4] at q; cases q
            | ok bs k4 =>
              have hl := bytT_len h4
              rw [h4] at q
              simp only [BR.bnd] at q
              split at q
              · simp [BT.run] at q
              · simp only [BT.run, BR.ok.injEq] at q
                rw [← q.1, List.length_append]; omega
  · split at q
    · exact symT_le ho q
    · split at q
      · rw [run_bnd] at q
        cases h1 : tolT.run (bitsL b) i with
        | no e => rw [h1] at q; cases q
        | ok p k => rw [h1] at q; exact symT_le ho q
      · simp [BT.run] at q
theorem blkT_ok {b : List UInt8} {most F i j : Nat} {out : List UInt8} {p : Bool × List UInt8} (hi : i ≤ 8 * b.length) (ho : out.length ≤ most) (h : (blkT most F out).run (bitsL b) i = .ok p j) : i < j ∧ j ≤ 8 * b.length ∧ p.2.length ≤ most := by
  have hj := (run_ok h).2 (by rw [length_bitsL]; exact hi)
  rw [length_bitsL] at hj
  rw [blkT, run_bnd, run_num hi] at h
  split at h
  · simp only [BR.bnd] at h
    rw [run_bnd] at h
    cases h1 : (bodT most F out (numAt b i 3 / 2)).run (bitsL b) (i + 3) with
    | no e => rw [h1] at h; cases h
    | ok o k =>
      have h2 := (run_ok h1).1
      rw [h1] at h
      simp only [BR.bnd, BT.run, BR.ok.injEq] at h
      obtain ⟨rfl, rfl⟩ := h
      exact ⟨by omega, hj, bodT_le ho h1⟩
  · cases h
def infA (F : Nat) (b : List UInt8) (most : Int) : List UInt8 × Nat × Nat := if most < 0 ∨ 16777216 < most then ([], 0, 1) else infR F b most.toNat
def gotA (r : List UInt8 × Nat × Nat) : AV := if r.2.2 = 0 then .tup [.sl (nl0 r.1.length) none (r.1.map u8), int (r.2.1 : Int), int 0] else .tup [.sc (.slice none 0 0), int 0, int (r.2.2 : Int)]
theorem free_gotA {r : List UInt8 × Nat × Nat} : (gotA r).free = true := by
  unfold gotA
  by_cases c : r.2.2 = 0
  · rw [if_pos c]; simp only [AV.free, AV.free.freeL, free_u8, int, Bool.and_self]
  · rw [if_neg c]; rfl
set_option maxHeartbeats 2000000 in
set_option maxRecDepth 100000 in
theorem inf_Inflate_c [Tabs Tryz.prog] (ht : Tabs.tab Tryz.prog 1 = some (tells.map nA)) (nl : Bool) (b : List UInt8) (hb : b.length ≤ 1000000) (hnl : nl = true → b = []) (most : Int) (F : Nat) (hF : 8 * b.length < F) :
    Con Tryz.prog n_inflate_Inflate [.sl nl none (b.map u8), int most] (gotA (infA F b most)) := by
  refine Con.of' mix Tryz.func10 rfl Tryz.ntmps10 e_inflate_Inflate r_inflate_Inflate (by simp) (by simp only [AV.free, AV.free.freeL, free_u8, int, Bool.and_self]) free_gotA ?_
  unfold s_inflate_Inflate
  by_cases c1 : most < 0
  · have d1 := decide_eq_true c1
    rw [show gotA (infA F b most) = .tup [.sc (.slice none 0 0), int 0, int 1] by rw [infA, if_pos (.inl c1)]; rfl]
    repeat (first | refine wA ?_ | refine wB ?_ | refine wC rfl ?_ | refine wD rfl ?_ | refine wE ?_ | refine wF (by omega) ?_ | ((first | refine wG ?_ | refine wH ?_ | refine wI ?_ | refine wJ ?_ | refine wK ?_ | refine wL ?_); simp (disch := omega) only [wP, wZ, undef, seval, if_pos, if_neg, aStore, frz, AV.flat, ↓reduceIte, ne_eq, reduceCtorEq, ByteArray.size, d1]))
  have d1 := decide_eq_false c1
  by_cases c2 : 16777216 < most
  · have d2 := decide_eq_true c2
    rw [show gotA (infA F b most) = .tup [.sc (.slice none 0 0), int 0, int 1] by rw [infA, if_pos (.inr c2)]; rfl]
    repeat (first | refine wA ?_ | refine wB ?_ | refine wC rfl ?_ | refine wD rfl ?_ | refine wE ?_ | refine wF (by omega) ?_ | ((first | refine wG ?_ | refine wH ?_ | refine wI ?_ | refine wJ ?_ | refine wK ?_ | refine wL ?_); simp (disch := omega) only [wP, wZ, undef, seval, if_pos, if_neg, aStore, frz, AV.flat, ↓reduceIte, ne_eq, reduceCtorEq, ByteArray.size, d1, d2]))
  have d2 := decide_eq_false c2
  rw [show infA F b most = infR F b most.toNat by rw [infA, if_neg (by omega)]]
  obtain ⟨m, hm⟩ : ∃ m : Nat, most = (m : Int) := ⟨most.toNat, by omega⟩
  subst hm
  rw [Int.toNat_natCast]
  have hm : m ≤ 16777216 := by omega
  obtain ⟨r, hr⟩ : ∃ r, (infT m F F []).run (bitsL b) 0 = r := ⟨_, rfl⟩
  have hse := fun e (q : (infT m F F []).run (bitsL b) 0 = .no e) => safe_run (safe_inf _ _) q
  rw [hr] at hse
  rw [infR, hr]
  repeat (first | refine wA ?_ | refine wB ?_ | refine wC rfl ?_ | refine wD rfl ?_ | refine wE ?_ | refine wF (by omega) ?_ | ((first | refine wG ?_ | refine wH ?_ | refine wI ?_ | refine wJ ?_ | refine wK ?_ | refine wL ?_); simp (disch := omega) only [wP, wZ, undef, seval, if_pos, if_neg, aStore, frz, AV.flat, ↓reduceIte, ne_eq, reduceCtorEq, ByteArray.size, d1, d2]))
  refine goC_h [] 2000 (huff_NewReader_h nl b hb hnl) (by simp) (by simp) ?_ ?_ ?_
  iterate 2 (case _ => simp (disch := omega) only [wP, wZ, undef, seval, if_pos, if_neg, aStore, frz, AV.flat, ↓reduceIte, ne_eq, reduceCtorEq, ByteArray.size])
  iterate 1 (first | refine wA ?_ | refine wB ?_ | refine wC rfl ?_ | refine wD rfl ?_ | refine wE ?_ | refine wF (by omega) ?_ | ((first | refine wG ?_ | refine wH ?_ | refine wI ?_ | refine wJ ?_ | refine wK ?_ | refine wL ?_); simp (disch := omega) only [wP, wZ, undef, seval, if_pos, if_neg, aStore, frz, AV.flat, ↓reduceIte, ne_eq, reduceCtorEq, ByteArray.size, rdR]))
  refine SWp.adoptC 19 2 1 100 none (nl := false) (cells := [.op 2006 1 0, .sc (.slice none 0 0), int (m : Int), .sc (.pointer none)]) (by simp (disch := omega) only [wP, wZ, undef, seval, if_pos, if_neg, aStore, frz, AV.flat, ↓reduceIte, ne_eq, reduceCtorEq, ByteArray.size]) rfl (by decide) ?_
  repeat (first | refine wA ?_ | refine wB ?_ | refine wC rfl ?_ | refine wD rfl ?_ | refine wE ?_ | refine wF (by omega) ?_ | ((first | refine wG ?_ | refine wH ?_ | refine wI ?_ | refine wJ ?_ | refine wK ?_ | refine wL ?_); simp (disch := omega) only [wP, wZ, undef, seval, if_pos, if_neg, aStore, frz, AV.flat, ↓reduceIte, ne_eq, reduceCtorEq, ByteArray.size, List.set_cons_zero, List.set_cons_succ]))
  refine SWp.loop (α := Nat × List UInt8 × Nat × Bool × Nat × Nat × Bool) (fun x => mk 54 x.2.2.2.2.2.1 [(7, .op 19 2 0), (8, boo x.2.2.2.2.2.2)] [(2006, 1, .row false (rdR nl b x.2.2.1)), (19, 2, .row false [.op 2006 1 0, .own 100 x.2.2.2.2.1 none 0 x.2.1.length, int (m : Int), fxA x.2.2.2.1]), (100, x.2.2.2.2.1, .row (nl0 x.2.1.length) (x.2.1.map u8))])
    (fun x => (if x.2.2.2.2.2.2 = true then BR.ok x.2.1 x.2.2.1 else (infT m F x.1 x.2.1).run (bitsL b) x.2.2.1) = r ∧ x.2.2.1 ≤ 8 * b.length ∧ 8 * b.length - x.2.2.1 < x.1 ∧ x.2.1.length ≤ m) (fun x => x.1 + (if x.2.2.2.2.2.2 = true then 0 else 1)) (F, [], 0, false, 3, 4, false) ⟨hr, Nat.zero_le _, by simp only; omega, Nat.zero_le _⟩ (le_mk rfl ?_ ?_ ?_) ?_
  · exact Nat.le_refl _
  iterate 2 (case _ => simp (disch := omega) only [wP, wZ, undef, seval, if_pos, if_neg, aStore, frz, AV.flat, ↓reduceIte, ne_eq, reduceCtorEq, ByteArray.size, rdR, fxA_false, nl0_zero])
  rintro ⟨f, o, i, t, g, c, last⟩ ⟨hx, hi, hf, ho⟩ -
  simp only at hx hi hf ho
  cases last with
  | true =>
    simp only [if_true] at hx
    subst hx
    obtain ⟨w, hw⟩ : ∃ w, w = i + 7 := ⟨_, rfl⟩
    have ew : (i : Int) + 8 - 1 = (w : Int) := by omega
    have hg : gotA (o, (i + 7) / 8, 0) = .tup [.sl (nl0 o.length) none (o.map u8), int (((i + 7) / 8 : Nat) : Int), int 0] := rfl
    simp only [gotR]
    rw [hg, ← hw]
    repeat (first | refine wA ?_ | refine wB ?_ | refine wC rfl ?_ | refine wD rfl ?_ | refine wE ?_ | refine wF (by omega) ?_ | ((first | refine wG ?_ | refine wH ?_ | refine wI ?_ | refine wJ ?_ | refine wK ?_ | refine wL ?_); simp (disch := omega) only [wP, wZ, undef, seval, if_pos, if_neg, aStore, frz, AV.flat, ↓reduceIte, ne_eq, reduceCtorEq, ByteArray.size]))
    refine goC_h [(2006, 1)] 3000 (huff_At_h nl b i) (by simp) (by simp) ?_ ?_ ?_
    iterate 2 (case _ => simp (disch := omega) only [wP, wZ, undef, seval, if_pos, if_neg, aStore, frz, AV.flat, ↓reduceIte, ne_eq, reduceCtorEq, ByteArray.size, rdR])
    repeat (first | refine wA ?_ | refine wB ?_ | refine wC rfl ?_ | refine wD rfl ?_ | refine wE ?_ | refine wF (by omega) ?_ | ((first | refine wG ?_ | refine wH ?_ | refine wI ?_ | refine wJ ?_ | refine wK ?_ | refine wL ?_); simp (disch := omega) only [wP, wZ, undef, seval, if_pos, if_neg, aStore, frz, AV.flat, ↓reduceIte, ne_eq, reduceCtorEq, ByteArray.size, rdR, ew]))
    all_goals trace_state
  | false =>
    rw [if_neg (by simp)] at hx
    obtain ⟨f, rfl⟩ : ∃ f', f = f' + 1 := ⟨f - 1, by omega⟩
    rw [infT, run_bnd] at hx
    have hB := inf_block_h ht t m hm nl b hb hnl i hi o ho F hF _ rfl
    have hBi := fun p j (q : (blkT m F o).run (bitsL b) i = .ok p j) => blkT_ok hi ho q
    have hBs := fun e (q : (blkT m F o).run (bitsL b) i = .no e) => safe_run safe_blk q
    obtain ⟨r1, hr1⟩ : ∃ r1, r1 = (blkT m F o).run (bitsL b) i := ⟨_, rfl⟩
    rw [← hr1] at hB hBi hBs hx
    obtain ⟨t2, ht2⟩ : ∃ t2, t2 = fxN t b i := ⟨_, rfl⟩
    obtain ⟨b2, hb2⟩ : ∃ b2, b2 = bitB b i := ⟨_, rfl⟩
    repeat (first | refine wA ?_ | refine wB ?_ | refine wC rfl ?_ | refine wD rfl ?_ | refine wE ?_ | refine wF (by omega) ?_ | ((first | refine wG ?_ | refine wH ?_ | refine wI ?_ | refine wJ ?_ | refine wK ?_ | refine wL ?_); simp (disch := omega) only [wP, wZ, undef, seval, if_pos, if_neg, aStore, frz, AV.flat, ↓reduceIte, ne_eq, reduceCtorEq, ByteArray.size]))
    refine goC_h [(19, 2), (2006, 1), (100, g)] 3000 hB (by simp) (by simp) ?_ ?_ ?_
    iterate 2 (case _ => simp (disch := omega) only [wP, wZ, undef, seval, if_pos, if_neg, aStore, frz, AV.flat, ↓reduceIte, ne_eq, reduceCtorEq, ByteArray.size, unI, unR, rdR, ren_fxA])
    cases r1 with
    | no e =>
      simp only [BR.bnd] at hx
      subst hx
      have he := hBs e rfl
      have de : decide ((e : Int) = 0) = false := decide_eq_false (by omega)
      have hg : gotA ([], 0, e) = .tup [.sc (.slice none 0 0), int 0, int (e : Int)] := by rw [gotA, if_neg (by simp only; omega)]
      simp only [gotR]
      rw [hg]
      repeat (first | refine wA ?_ | refine wB ?_ | refine wC rfl ?_ | refine wD rfl ?_ | refine wE ?_ | refine wF (by omega) ?_ | ((first | refine wG ?_ | refine wH ?_ | refine wI ?_ | refine wJ ?_ | refine wK ?_ | refine wL ?_); simp (disch := omega) only [wP, wZ, undef, seval, if_pos, if_neg, aStore, frz, AV.flat, ↓reduceIte, ne_eq, reduceCtorEq, ByteArray.size, ansB, houB, ← hb2, de]))
      all_goals trace_state
    | ok p j =>
      obtain ⟨hij, hj, hp⟩ := hBi p j rfl
      have hKB : KB F ≠ 0 := by simp only [KB]; omega
      simp only [BR.bnd] at hx
      repeat (first | refine wA ?_ | refine wB ?_ | refine wC rfl ?_ | refine wD rfl ?_ | refine wE ?_ | refine wF (by omega) ?_ | ((first | refine wG ?_ | refine wH ?_ | refine wI ?_ | refine wJ ?_ | refine wK ?_ | refine wL ?_); simp (disch := omega) only [wP, wZ, undef, seval, if_pos, if_neg, aStore, frz, AV.flat, ↓reduceIte, ne_eq, reduceCtorEq, ByteArray.size, ansB, houB, unO, unR, rdR, ren_fxA, ← ht2, rho_h2g]))
      refine At.of (f, p.2, j, t2, c + KB F, c + (KB F + 1), p.1) ⟨?_, hj, by simp only; omega, hp⟩ ?_ rfl rfl (Nat.le_refl _) ?_ ?_
      · simp only
        rw [← hx]
        cases h1 : p.1 <;> simp [BT.run]
      · simp only
        cases p.1 with
        | true => show f + 0 < f + 1 + 1; omega
        | false => show f + 1 < f + 1 + 1; omega
      iterate 2 (case _ => simp (disch := omega) only [wP, wZ, undef, seval, if_pos, if_neg, aStore, frz, AV.flat, ↓reduceIte, ne_eq, reduceCtorEq, ByteArray.size, rdR])
end Go.Proofs.YtbcncdpaigljeaaGreatDoor.Aw
namespace Go.Proofs.YtbcncdpaigljeaaGreatDoor.Aw
open Go
set_option linter.unusedSimpArgs false
set_option linter.unusedVariables false
theorem inf_one_c [Tabs Tryz.prog] (ht : Tabs.tab Tryz.prog 1 = some (tells.map nA)) (c R : List UInt8) (hc : c.length ≤ 65535) (hR : R.length ≤ 100000) (m : Nat) (hm : m ≤ 16777216) (hcm : c.length ≤ m) :
    Con Tryz.prog n_inflate_Inflate [.sl false none ((blkS 1 c ++ R).map u8), int (m : Int)] (.tup [.sl (nl0 c.length) none (c.map u8), int ((c.length + 5 : Nat) : Int), int 0]) := by
  have h := inf_Inflate_c ht false (blkS 1 c ++ R) (by rw [List.length_append, length_blkS]; omega) (fun h => by cases h) (m : Int) (8 * (blkS 1 c ++ R).length + 1) (by omega)
  rw [infA, if_neg (by omega), Int.toNat_natCast, inf_one hc hcm (by omega)] at h
  exact h
theorem gz_Pack_c [Tabs Tryz.prog] (nm : ByteArray) (hn : nm.data.toList.length ≤ 200) (hz : Lib.indexByte nm.data.toList 0 < 0) (mt : Nat) (hm : mt < 4294967296) (nl : Bool) (b : List UInt8) (hb : b.length ≤ 1000000) (how : Int) (K : List UInt8) (hK : K.length ≤ 1000000)
    (hD : Con Tryz.prog n_deflate_Deflate [.sl nl none (b.map u8), int how] (.tup [.sl false none (K.map u8), int 0])) :
    Con Tryz.prog n_gzip_Pack [mbA nm mt nl b, int how] (.tup [.sl false none ((hdB nm.data.toList mt ++ (K ++ tlB b)).map u8), int 0]) := by
  obtain ⟨n, hn'⟩ : ∃ n, n = (hdB nm.data.toList mt ++ (K ++ tlB b)).length := ⟨_, rfl⟩
  have h := gz_Pack_h nm hn hz mt hm nl b hb how K hK hD n hn'
  refine h.con _ ?_ ?_
  · have ht : ((hdB nm.data.toList mt ++ (K ++ tlB b)).map u8).take n = (hdB nm.data.toList mt ++ (K ++ tlB b)).map u8 := List.take_of_length_le (by simp only [List.length_map]; omega)
    have hl : n ≤ ((hdB nm.data.toList mt ++ (K ++ tlB b)).map u8).length := by simp only [List.length_map]; omega
    obtain ⟨X, hX⟩ : ∃ X, X = hdB nm.data.toList mt ++ (K ++ tlB b) := ⟨_, rfl⟩
    rw [← hX] at ht hl ⊢
    rw [List.length_map] at hl
    simp (disch := omega) only [wP, wZ, undef, seval, if_pos, if_neg, aStore, frz, AV.flat, ↓reduceIte, ne_eq, reduceCtorEq, ByteArray.size, ht, hl, List.length_map]
  · simp only [AV.free, AV.free.freeL, free_u8, int, Bool.and_self]
theorem eqB_self {x : AV} : eqB x x = true := eqB_t rfl
theorem fault_like {a e : Int} (ha : 0 ≤ a) (ha' : a ≤ 1000000000) (he : 0 ≤ e) (he' : e ≤ 1000000000) : likeA (.agg #[.string ⟨#[]⟩, .int .i64 0, .int .i64 0]) (.agg [.sc (.string ⟨#[]⟩), .sc (.int .i64 a), .sc (.int .i64 e)]) = True := by
  have k1 : IntKind.i64.min = -9223372036854775808 := rfl
  have k2 : IntKind.i64.max = 9223372036854775807 := rfl
  refine eq_true ?_
  simp only [likeA, likeAL, likeA1, k1, k2, and_true, true_and]
  refine ⟨by decide, by omega, by omega⟩
theorem aw6 : hdB [110] 1 ++ (stL [97] ++ tlB [97]) = [31, 139, 8, 8, 1, 0, 0, 0, 0, 3, 110, 0, 1, 1, 0, 254, 255, 97, 67, 190, 183, 232, 1, 0, 0, 0] := by decide +kernel
set_option maxHeartbeats 1000000 in
set_option maxRecDepth 100000 in
theorem law06_awake_c [Tabs Tryz.prog] (ht : Tabs.tab Tryz.prog 1 = some (tells.map nA)) : Con Tryz.prog n_drayagelaw06_awake [] (boo true) := by
  refine Con.of' mix Tryz.func12 rfl Tryz.ntmps12 e_drayagelaw06_awake r_drayagelaw06_awake (by simp) rfl rfl ?_
  unfold s_drayagelaw06_awake
  have p1 := gz_Pack_c ⟨#[110]⟩ (by decide) (by decide) 1 (by omega) false [97] (by decide) 0 (stL [97]) (by decide) (Deflate_0 false [97] (by decide))
  have hI := inf_one_c ht [97] (tlB [97]) (by decide) (by rw [tlB_len]; omega) 10 (by omega) (by decide)
  rw [← stL_one (by decide)] at hI
  have p2 := gz_Unpack_one [110] (by decide) (by decide) 1 (by omega) (stL [97] ++ tlB [97]) _ aw6.symm (by decide) (by rw [stL_one (by decide), List.length_append, length_blkS, tlB_len]; decide) 10 (by omega) _ [97] (by decide) _ hI (by rw [stL_one (by decide), List.length_append, length_blkS, tlB_len]) (by decide +kernel)
  rw [show (⟨#[110]⟩ : ByteArray).data.toList = [110] from rfl, aw6] at p1
  obtain ⟨B, hB⟩ : ∃ B : List UInt8, B = [31, 139, 8, 8, 1, 0, 0, 0, 0, 3, 110, 0, 1, 1, 0, 254, 255, 97, 67, 190, 183, 232, 1, 0, 0, 0] := ⟨_, rfl⟩
  rw [← hB] at p1 p2
  have hBl : B.length = 26 := by rw [hB]; rfl
  have hB12 : ((B.take 12).map u8).map unu8 = [31, 139, 8, 8, 1, 0, 0, 0, 0, 3, 110, 0] := by rw [hB]; decide
  have e1 : ([97] : List UInt8).map u8 = [.sc (.int .u8 97)] := rfl
  have u1 : unu8 (AV.sc (.int .u8 97)) = 97 := rfl
  have lk := fault_like (a := 0) (e := 0) (by omega) (by omega) (by omega) (by omega)
  simp only [mbA, e1] at p1 p2
  repeat (first | refine wA ?_ | refine wB ?_ | refine wC rfl ?_ | refine wD rfl ?_ | refine wE ?_ | refine wF (by omega) ?_ | ((first | refine wG ?_ | refine wH ?_ | refine wI ?_ | refine wJ ?_ | refine wK ?_ | refine wL ?_); simp (disch := omega) only [wP, wZ, undef, seval, if_pos, if_neg, aStore, frz, AV.flat, ↓reduceIte, ne_eq, reduceCtorEq, ByteArray.size]))
  refine goC_p _ (.inl ⟨rfl, p1⟩) ?_
  repeat (first | refine wA ?_ | refine wB ?_ | refine wC rfl ?_ | refine wD rfl ?_ | refine wE ?_ | refine wF (by omega) ?_ | ((first | refine wG ?_ | refine wH ?_ | refine wI ?_ | refine wJ ?_ | refine wK ?_ | refine wL ?_); simp (disch := omega) only [wP, wZ, undef, seval, if_pos, if_neg, aStore, frz, AV.flat, ↓reduceIte, ne_eq, reduceCtorEq, ByteArray.size]))
  refine goC_p _ (.inl ⟨by simp only [AV.free, AV.free.freeL, free_u8, Bool.and_self], p2⟩) ?_
  repeat (first | refine wA ?_ | refine wB ?_ | refine wC rfl ?_ | refine wD rfl ?_ | refine wE ?_ | refine wF (by omega) ?_ | ((first | refine wG ?_ | refine wH ?_ | refine wI ?_ | refine wJ ?_ | refine wK ?_ | refine wL ?_); simp (disch := omega) only [wP, wZ, undef, seval, if_pos, if_neg, aStore, frz, AV.flat, ↓reduceIte, ne_eq, reduceCtorEq, ByteArray.size, lk, eqB_self, hBl, hB12, List.length_map, u1]))
  refine ⟨by rw [hB]; rfl, ?_⟩
  repeat (first | refine wA ?_ | refine wB ?_ | refine wC rfl ?_ | refine wD rfl ?_ | refine wE ?_ | refine wF (by omega) ?_ | ((first | refine wG ?_ | refine wH ?_ | refine wI ?_ | refine wJ ?_ | refine wK ?_ | refine wL ?_); simp (disch := omega) only [wP, wZ, undef, seval, if_pos, if_neg, aStore, frz, AV.flat, ↓reduceIte, ne_eq, reduceCtorEq, ByteArray.size]))
def bitO (k : Nat) : UInt8 := UInt8.ofNat (2 ^ k)
theorem shl_bit {k : Nat} (h : k ≤ 7) : aInt .shl .u8 1 .u64 (k : Int) = (True, .sc (.int .u8 ((bitO k).toNat : Int))) := by
  obtain rfl | rfl | rfl | rfl | rfl | rfl | rfl | rfl : k = 0 ∨ k = 1 ∨ k = 2 ∨ k = 3 ∨ k = 4 ∨ k = 5 ∨ k = 6 ∨ k = 7 := by omega
  all_goals (rw [aInt_shl]; simp only [Prod.mk.injEq, eq_iff_iff, iff_true]; refine ⟨by decide, rfl⟩)
theorem xor_other {x : UInt8} {k : Nat} (h : k ≤ 7) : x ^^^ bitO k ≠ x := by
  intro e
  have e2 := congrArg (x ^^^ ·) e
  simp only [← UInt8.xor_assoc, UInt8.xor_self, UInt8.zero_xor] at e2
  obtain rfl | rfl | rfl | rfl | rfl | rfl | rfl | rfl : k = 0 ∨ k = 1 ∨ k = 2 ∨ k = 3 ∨ k = 4 ∨ k = 5 ∨ k = 6 ∨ k = 7 := by omega
  all_goals (revert e2; decide)
set_option maxHeartbeats 1000000 in
set_option maxRecDepth 100000 in
theorem GzipTells_law' [Tabs Tryz.prog] (ht : Tabs.tab Tryz.prog 1 = some (tells.map nA)) (nl : Bool) (b : List UInt8) (hb : b.length ≤ maxLen) (hn : nl = true → b = []) (at' : Int) (h1 : IntKind.i64.min ≤ at') (h2 : at' ≤ IntKind.i64.max) (bit : Int) (h3 : IntKind.i64.min ≤ bit) (h4 : bit ≤ IntKind.i64.max) :
    Con Tryz.prog n_drayagelaw06_GzipTells [.sl nl none (b.map u8), int at', int bit] (boo true) := by
  refine Con.of' mix Tryz.func7 rfl Tryz.ntmps7 e_drayagelaw06_GzipTells r_drayagelaw06_GzipTells (by simp) (by simp only [AV.free, AV.free.freeL, free_u8, int, Bool.and_self]) rfl ?_
  unfold s_drayagelaw06_GzipTells
  have hmx : IntKind.i64.max = 9223372036854775807 := rfl
  repeat (first | refine wA ?_ | refine wB ?_ | refine wC rfl ?_ | refine wD rfl ?_ | refine wE ?_ | refine wF (by omega) ?_ | ((first | refine wG ?_ | refine wH ?_ | refine wI ?_ | refine wJ ?_ | refine wK ?_ | refine wL ?_); simp (disch := omega) only [wP, wZ, undef, seval, if_pos, if_neg, aStore, frz, AV.flat, ↓reduceIte, ne_eq, reduceCtorEq, ByteArray.size]))
  refine goC_p _ (.inl ⟨rfl, law06_awake_c ht⟩) ?_
  by_cases c1 : 1000 < (b.length : Int)
  · have d1 := decide_eq_true c1
    repeat (first | refine wA ?_ | refine wB ?_ | refine wC rfl ?_ | refine wD rfl ?_ | refine wE ?_ | refine wF (by omega) ?_ | ((first | refine wG ?_ | refine wH ?_ | refine wI ?_ | refine wJ ?_ | refine wK ?_ | refine wL ?_); simp (disch := omega) only [wP, wZ, undef, seval, if_pos, if_neg, aStore, frz, AV.flat, ↓reduceIte, ne_eq, reduceCtorEq, ByteArray.size, d1]))
  have d1 := decide_eq_false c1
  by_cases c4 : bit < 0
  · have d4 := decide_eq_true c4
    repeat (first | refine wA ?_ | refine wB ?_ | refine wC rfl ?_ | refine wD rfl ?_ | refine wE ?_ | refine wF (by omega) ?_ | ((first | refine wG ?_ | refine wH ?_ | refine wI ?_ | refine wJ ?_ | refine wK ?_ | refine wL ?_); simp (disch := omega) only [wP, wZ, undef, seval, if_pos, if_neg, aStore, frz, AV.flat, ↓reduceIte, ne_eq, reduceCtorEq, ByteArray.size, d1, d4]))
  have d4 := decide_eq_false c4
  by_cases c5 : 7 < bit
  · have d5 := decide_eq_true c5
    repeat (first | refine wA ?_ | refine wB ?_ | refine wC rfl ?_ | refine wD rfl ?_ | refine wE ?_ | refine wF (by omega) ?_ | ((first | refine wG ?_ | refine wH ?_ | refine wI ?_ | refine wJ ?_ | refine wK ?_ | refine wL ?_); simp (disch := omega) only [wP, wZ, undef, seval, if_pos, if_neg, aStore, frz, AV.flat, ↓reduceIte, ne_eq, reduceCtorEq, ByteArray.size, d1, d4, d5]))
  have d5 := decide_eq_false c5
  by_cases c2 : at' < 0
  · have d2 := decide_eq_true c2
    repeat (first | refine wA ?_ | refine wB ?_ | refine wC rfl ?_ | refine wD rfl ?_ | refine wE ?_ | refine wF (by omega) ?_ | ((first | refine wG ?_ | refine wH ?_ | refine wI ?_ | refine wJ ?_ | refine wK ?_ | refine wL ?_); simp (disch := omega) only [wP, wZ, undef, seval, if_pos, if_neg, aStore, frz, AV.flat, ↓reduceIte, ne_eq, reduceCtorEq, ByteArray.size, d1, d2, d4, d5]))
  have d2 := decide_eq_false c2
  by_cases c3 : (b.length : Int) + 8 ≤ at'
  · have d3 := decide_eq_true c3
    repeat (first | refine wA ?_ | refine wB ?_ | refine wC rfl ?_ | refine wD rfl ?_ | refine wE ?_ | refine wF (by omega) ?_ | ((first | refine wG ?_ | refine wH ?_ | refine wI ?_ | refine wJ ?_ | refine wK ?_ | refine wL ?_); simp (disch := omega) only [wP, wZ, undef, seval, if_pos, if_neg, aStore, frz, AV.flat, ↓reduceIte, ne_eq, reduceCtorEq, ByteArray.size, d1, d2, d3, d4, d5]))
  have d3 := decide_eq_false c3
  obtain ⟨i, rfl⟩ : ∃ i : Nat, at' = i := ⟨at'.toNat, by omega⟩
  obtain ⟨k, rfl⟩ : ∃ k : Nat, bit = k := ⟨bit.toNat, by omega⟩
  have hi : i < b.length + 8 := by omega
  have hk : k ≤ 7 := by omega
  have hs := shl_bit hk
  have hw : IntKind.u64.wrap (k : Int) = (k : Int) := wrap_u64_id (by omega) (by omega)
  obtain ⟨n, hnn⟩ : ∃ n, n = (hdB [] 0 ++ (stL b ++ tlB b)).length := ⟨_, rfl⟩
  have hnl : n = b.length + 23 := by
    rw [hnn, stL_one (by omega), List.length_append, List.length_append, length_blkS, tlB_len, hdB, leB4]
    simp only [if_pos, List.length_cons, List.length_append, List.length_nil]; omega
  have p1 := gz_Pack_h ⟨#[]⟩ (by decide) (by decide) 0 (by omega) nl b (by omega) 0 (stL b) (by rw [stL_one (by omega), length_blkS]; omega) (Deflate_0 nl b (by omega)) n hnn
  rw [show (⟨#[]⟩ : ByteArray).data.toList = [] from rfl, stL_one (by omega)] at p1
  rw [stL_one (by omega)] at hnn
  obtain ⟨m, hm⟩ : ∃ m, m = bitO k := ⟨_, rfl⟩
  obtain ⟨x, hx⟩ : ∃ x, x = (hdB [] 0 ++ (blkS 1 b ++ tlB b)).getD (15 + i) 0 := ⟨_, rfl⟩
  have hne : x ^^^ m ≠ x := by rw [hm]; exact xor_other hk
  obtain ⟨D, T, hset, hD, hT, hTD⟩ := turned (D := b) (by omega) hi (v := x ^^^ m) (by rw [← hx]; exact hne)
  have hI := inf_one_c ht D T (by omega) (by omega) 2000 (by omega) (by omega)
  have hdr : (blkS 1 D ++ T).drop (D.length + 5) = T := by rw [← length_blkS (u := 1), List.drop_left]
  have hh : (hdB [] 0).length = 10 := by rw [hdB, leB4]; rfl
  have p2 := gz_Unpack_bad [] (by decide) (by decide) 0 (by omega) (blkS 1 D ++ T) _ rfl (by simp only [List.length_append, length_blkS, hh]; omega) (by simp only [List.length_append, length_blkS]; omega) 2000 (by omega) _ D (by omega) _ hI (by simp only [List.length_append, length_blkS]; omega) (by rw [hdr, List.take_of_length_le (by omega)]; exact hTD)
  rw [← hset] at p2
  obtain ⟨X, hX⟩ : ∃ X, X = hdB [] 0 ++ (blkS 1 b ++ tlB b) := ⟨_, rfl⟩
  rw [← hX] at p1 p2 hx hnn
  rw [← hm] at hs
  have hxm : (x.toNat ^^^ m.toNat : Nat) = (x ^^^ m).toNat := (UInt8.toNat_xor x m).symm
  have hm2 := m.toNat_lt
  have hx2 := x.toNat_lt
  have hset2 : X.take (15 + i) ++ [x ^^^ m] ++ X.drop (15 + i + 1) = X.set (15 + i) (x ^^^ m) := by rw [List.set_eq_take_append_cons_drop, if_pos (by omega)]; simp
  have hlc : (X.set (15 + i) (x ^^^ m)).length = n := by rw [List.length_set, hnn]
  obtain ⟨c, hc⟩ : ∃ c, c = X.set (15 + i) (x ^^^ m) := ⟨_, rfl⟩
  rw [← hc] at p2 hset2 hlc
  have hmc : (X.take (15 + i)).map u8 ++ AV.sc (.int .u8 ((x ^^^ m).toNat : Int)) :: (X.drop (15 + i + 1)).map u8 = c.map u8 := by rw [← hset2]; simp [u8]
  have ht15 : ((15 : Int) + (i : Int)).toNat = 15 + i := by omega
  have dn : decide ((n : Int) = 15 + (b.length : Int) + 8) = true := decide_eq_true (by omega)
  have lk := fault_like (a := 0) (e := 5) (by omega) (by omega) (by omega) (by omega)
  clear hset hX hc hm hI hTD
  repeat (first | refine wA ?_ | refine wB ?_ | refine wC rfl ?_ | refine wD rfl ?_ | refine wE ?_ | refine wF (by omega) ?_ | ((first | refine wG ?_ | refine wH ?_ | refine wI ?_ | refine wJ ?_ | refine wK ?_ | refine wL ?_); simp (disch := omega) only [wP, wZ, undef, seval, if_pos, if_neg, aStore, frz, AV.flat, ↓reduceIte, ne_eq, reduceCtorEq, ByteArray.size, d1, d2, d3, d4, d5]))
  refine goC_h [] 10000 p1 (by simp) (by simp) ?_ ?_ ?_
  iterate 2 (case _ => simp (disch := omega) only [wP, wZ, undef, seval, if_pos, if_neg, aStore, frz, AV.flat, ↓reduceIte, ne_eq, reduceCtorEq, ByteArray.size, mbA])
  repeat (first | refine wA ?_ | refine wB ?_ | refine wC rfl ?_ | refine wD rfl ?_ | refine wE ?_ | refine wF (by omega) ?_ | ((first | refine wG ?_ | refine wH ?_ | refine wI ?_ | refine wJ ?_ | refine wK ?_ | refine wL ?_); simp (disch := omega) only [wP, wZ, undef, seval, if_pos, if_neg, aStore, frz, AV.flat, ↓reduceIte, ne_eq, reduceCtorEq, ByteArray.size, dn, ht15, ← hx, hw, hs, hxm, List.length_map, ← hnn]))
  have hct : (c.map u8).take n = c.map u8 := List.take_of_length_le (by simp only [List.length_map]; omega)
  have hlt : (X.take (15 + i)).length + ((X.drop (15 + i + 1)).length + 1) = n := by rw [List.length_take, List.length_drop]; omega
  refine goC_p (.tup [.sc (.slice none 0 0), .agg [str [], int 0, int 5]]) (.inr ⟨rfl, ?_, ?_⟩) ?_
  · simp (disch := omega) only [wP, wZ, undef, seval, if_pos, if_neg, aStore, frz, AV.flat, ↓reduceIte, ne_eq, reduceCtorEq, ByteArray.size, hmc, hlt, hlc, hct, List.length_map]
  · simp (disch := omega) only [wP, wZ, undef, seval, if_pos, if_neg, aStore, frz, AV.flat, ↓reduceIte, ne_eq, reduceCtorEq, ByteArray.size, hmc, hlt, hlc, hct, List.length_map]
    exact p2
  repeat (first | refine wA ?_ | refine wB ?_ | refine wC rfl ?_ | refine wD rfl ?_ | refine wE ?_ | refine wF (by omega) ?_ | ((first | refine wG ?_ | refine wH ?_ | refine wI ?_ | refine wJ ?_ | refine wK ?_ | refine wL ?_); simp (disch := omega) only [wP, wZ, undef, seval, if_pos, if_neg, aStore, frz, AV.flat, ↓reduceIte, ne_eq, reduceCtorEq, ByteArray.size, lk, eqB_self]))
end Go.Proofs.YtbcncdpaigljeaaGreatDoor.Aw
namespace Go.Proofs.YtbcncdpaigljeaaGreatDoor.Aw
open Go
set_option linter.unusedSimpArgs false
set_option linter.unusedVariables false
theorem laid_var {P : Program} {w : World} {n : String} {d : DataW Unit} : ∀ {l : List (String × DataW Unit)} {ps : List MemPlace}, DataW.LaidVars P w l ps → (n, d) ∈ l →
    ∃ g t cs fuel p, P.globalNamed n = some g ∧ (P.globals[g]?).map (·.type) = some t ∧ w.var? P n = some cs ∧ DataW.trod (fun _ => ()) P w 0 (fun _ => true) false fuel t cs.toList = some (d, p)
  | [], _, _, hm => by simp at hm
  | (n', d') :: r, ps, h, hm => by
    obtain ⟨g, t, cs, fuel, p, q, h1, h2, h3, h4, h5, _⟩ := h
    rcases List.mem_cons.1 hm with e | hm
    · cases e; exact ⟨g, t, cs, fuel, p, h1, h2, h3, h4⟩
    · exact laid_var h5 hm
theorem ok_of {P : Program} {W : World} {n : String} {g : Nat} {cs : Array Value} (hg : P.globalNamed n = some g) (zs : List Value) (h3 : W.var? P n = some cs) (hz : cs.toList = zs) (h1 : ∀ v ∈ zs, v.oneCell' = true) :
    (all W).S g ∧ AV.free.freeL (zs.map AV.sc) = true ∧ ∃ (cs : List Value) (E : TypeId) (fr : Nat × Nat), RdL ⟨(all W).S, fun _ _ => none⟩ W (zs.map AV.sc) cs ∧ W.heap[g]? = some (Obj.cells cs.toArray E fr) ∧ ∀ v ∈ cs, v.oneCell' = true := by
  unfold World.var? at h3
  rw [hg, Option.bind_some] at h3
  split at h3
  · rename_i cs' E fr hheap
    simp only [Option.some.injEq] at h3
    subst h3
    exact ⟨lt_of_some hheap, free_sc _, zs, E, fr, rdL_sc _, by rw [hheap, ← hz], h1⟩
  · simp at h3
theorem map_nA_sc (l : List Nat) : l.map nA = (l.map fun x : Nat => Value.int .i64 (x : Int)).map AV.sc := by simp only [List.map_map]; rfl
theorem dataI : (Rows.laid_drayage_inflate_tellers : DataW Unit) = Lib.tabData .i64 (tells.map fun x : Nat => (x : Int)) := by kernel_rfl
theorem dataD : (Rows.laid_drayage_deflate_tellers : DataW Unit) = Lib.tabData .i64 (tells.map fun x : Nat => (x : Int)) := by kernel_rfl
theorem globI : Tryz.prog.globalNamed "drayage/inflate.tellers" = some 1 := by kernel_rfl
theorem globD : Tryz.prog.globalNamed "drayage/deflate.tellers" = some 0 := by kernel_rfl
theorem gtyI : (Tryz.prog.globals[1]?).map (·.type) = some 155 := by kernel_rfl
theorem gtyD : (Tryz.prog.globals[0]?).map (·.type) = some 155 := by kernel_rfl
@[reducible] def two_tabs : Tabs Tryz.prog := ⟨fun g => if g = 1 then some (tells.map nA) else if g = 0 then some (tells.map nA) else none⟩
theorem two_tabI : @Tabs.tab Tryz.prog two_tabs 1 = some (tells.map nA) := rfl
theorem two_tabOk (W : World) (h : laidMetH Tryz.prog [("drayage/deflate.tellers", Rows.laid_drayage_deflate_tellers), ("drayage/inflate.tellers", Rows.laid_drayage_inflate_tellers)] W) : @TabOk Tryz.prog two_tabs (all W).S W := by
  rw [MakeChecks.laidMetH_plain _ _ _ (by kernel_rfl)] at h
  obtain ⟨ps, h, _⟩ := h
  obtain ⟨g1, t1, cs1, fuel1, p1, a1, b1, c1, d1⟩ := laid_var (n := "drayage/inflate.tellers") (d := Rows.laid_drayage_inflate_tellers) h (by simp)
  obtain ⟨g2, t2, cs2, fuel2, p2, a2, b2, c2, d2⟩ := laid_var (n := "drayage/deflate.tellers") (d := Rows.laid_drayage_deflate_tellers) h (by simp)
  obtain rfl := Option.some.inj (globI.symm.trans a1)
  obtain rfl := Option.some.inj (gtyI.symm.trans b1)
  obtain rfl := Option.some.inj (globD.symm.trans a2)
  obtain rfl := Option.some.inj (gtyD.symm.trans b2)
  rw [dataI] at d1
  rw [dataD] at d2
  have e1 := Lib.cells_of_tab Tryz.underlying155 Tryz.underlying3 (by kernel_rfl) (by kernel_rfl) d1
  have e2 := Lib.cells_of_tab Tryz.underlying155 Tryz.underlying3 (by kernel_rfl) (by kernel_rfl) d2
  intro g xs hg
  simp only [two_tabs, Tabs.tab] at hg
  split at hg
  · rename_i e
    subst e
    cases hg
    rw [map_nA_sc]
    refine ok_of globI _ c1 (e1.trans (by rw [List.map_map]; rfl)) ?_
    intro v hv
    obtain ⟨z, _, rfl⟩ := List.mem_map.1 hv
    rfl
  split at hg
  · rename_i e
    subst e
    cases hg
    rw [map_nA_sc]
    refine ok_of globD _ c2 (e2.trans (by rw [List.map_map]; rfl)) ?_
    intro v hv
    obtain ⟨z, _, rfl⟩ := List.mem_map.1 hv
    rfl
  · simp at hg
end Go.Proofs.YtbcncdpaigljeaaGreatDoor.Aw
namespace Go.Proofs.YtbcncdpaigljeaaGreatDoor.Aw
open Go
set_option linter.unusedSimpArgs false
set_option linter.unusedVariables false
@[reducible] def GzipTells_tabs : Tabs Tryz.prog := two_tabs
theorem GzipTells_tabOk (W : World) (h : laidMetH Tryz.prog Rows.gzipTellsRow.laid W) : @TabOk Tryz.prog GzipTells_tabs (all W).S W := two_tabOk W h
theorem GzipTells_law (nl : Bool) (b : List UInt8) (hb : b.length ≤ maxLen) (hn : nl = true → b = []) (at' : Int) (h1 : IntKind.i64.min ≤ at') (h2 : at' ≤ IntKind.i64.max) (bit : Int) (h3 : IntKind.i64.min ≤ bit) (h4 : bit ≤ IntKind.i64.max) :
    @Con Tryz.prog GzipTells_tabs n_drayagelaw06_GzipTells [.sl nl none (b.map u8), int at', int bit] (boo true) :=
  @GzipTells_law' two_tabs two_tabI nl b hb hn at' h1 h2 bit h3 h4
end Go.Proofs.YtbcncdpaigljeaaGreatDoor.Aw
