/- Contracts: huff.firstRows, huff.Codes, drayageref03.Codes. -/
import Derived.Test.YtokdmakljdhjiaaDoorCodA
namespace Go.Proofs.YtokdmakljdhjiaaDoor.Aw
open Go
set_option linter.unusedSimpArgs false
set_option linter.unusedVariables false

/-- Sixteen numbers. -/
def r16 (f : Nat → Nat) : List Nat := (List.range 16).map f
theorem length_r16 {f : Nat → Nat} : (r16 f).length = 16 := by simp [r16]
theorem r16_get {f : Nat → Nat} {k : Nat} (h : k < 16) : (r16 f).getD k 0 = f k := by simp [r16, List.getD, h]
theorem r16_set {f g : Nat → Nat} {k x : Nat} (h : ∀ i, i < 16 → g i = if i = k then x else f i) : (r16 f).set k x = r16 g := by
  apply List.ext_getElem?
  intro i
  rw [List.getElem?_set, length_r16]
  by_cases hi : i < 16
  · have h1 : (r16 f)[i]? = some (f i) := by simp [r16, hi]
    have h2 : (r16 g)[i]? = some (g i) := by simp [r16, hi]
    rw [h1, h2, h i hi]
    by_cases e : k = i
    · subst e; simp [hi]
    · rw [if_neg e, if_neg (fun h => e h.symm)]
  · have h1 : (r16 f)[i]? = none := List.getElem?_eq_none (by rw [length_r16]; omega)
    have h2 : (r16 g)[i]? = none := List.getElem?_eq_none (by rw [length_r16]; omega)
    rw [h1, h2]
    split
    · rename_i e; subst e; rw [if_neg hi]
    · rfl
theorem r16_zero : (List.replicate 16 (Value.int .i64 0)).map AV.sc = (r16 fun _ => 0).map nA := rfl
theorem r16_congr {f g : Nat → Nat} (h : ∀ i, i < 16 → f i = g i) : r16 f = r16 g := List.map_congr_left fun i hi => h i (List.mem_range.1 hi)
theorem count_snoc {l : List Nat} {k n : Nat} (h : k < l.length) : (l.take (k + 1)).count n = (l.take k).count n + (if n = l.getD k 0 then 1 else 0) := by
  rw [snocD (d := 0) h, List.count_append]
  congr 1
  by_cases e : n = l.getD k 0
  · rw [if_pos e, ← e]; simp
  · rw [if_neg e, List.count_singleton]; simp; exact fun h => e h.symm
theorem count_take_le {l : List Nat} {k n : Nat} : (l.take k).count n ≤ l.length := Nat.le_trans List.count_le_length (by rw [List.length_take]; omega)

/-- How many symbols have that length; the first row of a length. -/
def cn (l : List Nat) (n : Nat) : Nat := if n = 0 then 0 else l.count n
def fr (l : List Nat) : Nat → Nat
  | 0 => 0
  | n + 1 => 2 * (fr l n + cn l n)
theorem cn_le {l : List Nat} {n : Nat} : cn l n ≤ l.length := by
  unfold cn; split
  · omega
  · exact List.count_le_length
theorem fr_le {l : List Nat} (hl : l.length ≤ 320) : ∀ {n : Nat}, fr l n + 640 ≤ 640 * 2 ^ n
  | 0 => by simp [fr]
  | n + 1 => by
    have h1 := fr_le hl (n := n)
    have h2 := cn_le (l := l) (n := n)
    simp only [fr, Nat.pow_succ]; omega
theorem fr_lt {l : List Nat} (hl : l.length ≤ 320) {n : Nat} (hn : n ≤ 15) : fr l n ≤ 20971520 := by
  have h1 := fr_le hl (n := n)
  have h2 : 2 ^ n ≤ 32768 := two_pow_le (n := n) (m := 15) hn
  omega

set_option maxRecDepth 100000 in
theorem huff_firstRows_c [Tabs Tryd.prog] (nl : Bool) (l : List Nat) (hl : l.length ≤ 320) (h15 : ∀ x ∈ l, x ≤ 15) : Con Tryd.prog n_huff_firstRows [.sl nl none (l.map nA)] (.agg ((r16 (fr l)).map nA)) := by
  refine Con.of' mix Tryd.func52 rfl Tryd.ntmps52 e_huff_firstRows r_huff_firstRows (by simp) (by simp only [AV.free, AV.free.freeL, free_nA, Bool.and_self]) (by simp only [AV.free, free_nA]) ?_
  unfold s_huff_firstRows
  obtain ⟨Z, hZ⟩ : ∃ Z, Z = r16 fun _ => 0 := ⟨_, rfl⟩
  have hZl : Z.length = 16 := by rw [hZ, length_r16]
  have hz : (List.replicate 16 (Value.int .i64 0)).map AV.sc = Z.map nA := by rw [hZ]; rfl
  have hZd : Z.drop 16 = [] := List.drop_of_length_le (by omega)
  repeat (first | refine SWp.seq ?_ | refine SWp.block ?_ | refine SWp.condT rfl ?_ | refine SWp.condF rfl ?_ | refine LoopAt.next ?_ | refine And.intro (by omega) ?_ | ((first | refine SWp.reg ?_ | refine SWp.skip ?_ | refine SWp.exit ?_ | refine SWp.ret ?_ | refine (fun h => h : AOps _ _ _ _ → AOps _ _ _ _) ?_); simp (disch := omega) only [wP, wZ, undef, eq_self, UInt8.reduceToNat, Nat.reduceOr, Nat.reduceAnd, Nat.reduceXor, Nat.reduceDiv, if_pos, if_neg, aStore, frz, AV.flat, ↓reduceIte, ne_eq, reduceCtorEq, Int.reduceToNat, Nat.reduceEqDiff, Nat.reduceAdd, Nat.reduceSub, Nat.reduceMul, Int.reduceAdd, Int.reduceMul, Int.reduceSub, Int.reduceLT, Int.reduceLE, Int.reduceEq, Int.reduceNe, Nat.reduceLeDiff, Nat.reduceLT, Int.reduceNeg, Nat.reducePow, Nat.reduceMod, ByteArray.size, hz]))
  refine SWp.loop (α := Nat) (fun k => mk 37 2 [(2, .op 2 0 0), (3, .op 3 1 0), (8, .sl nl none (l.map nA)), (9, int l.length), (10, int k)] [(2, 0, .row false (Z.map nA)), (3, 1, .row false ((r16 fun n => (l.take k).count n).map nA))])
    (fun k => k ≤ l.length) (fun k => l.length - k) 0 (Nat.zero_le _) (le_mk rfl ?_ ?_ ?_) ?_
  · exact Nat.le_refl _
  iterate 2 (case _ => simp (disch := omega) only [wP, wZ, undef, eq_self, UInt8.reduceToNat, Nat.reduceOr, Nat.reduceAnd, Nat.reduceXor, Nat.reduceDiv, if_pos, if_neg, aStore, frz, AV.flat, ↓reduceIte, ne_eq, reduceCtorEq, Int.reduceToNat, Nat.reduceEqDiff, Nat.reduceAdd, Nat.reduceSub, Nat.reduceMul, Int.reduceAdd, Int.reduceMul, Int.reduceSub, Int.reduceLT, Int.reduceLE, Int.reduceEq, Int.reduceNe, Nat.reduceLeDiff, Nat.reduceLT, Int.reduceNeg, Nat.reducePow, Nat.reduceMod, ByteArray.size, List.take_zero, List.count_nil, hZ])
  rintro k hk -
  repeat (first | refine SWp.seq ?_ | refine SWp.block ?_ | refine SWp.condT rfl ?_ | refine SWp.condF rfl ?_ | refine LoopAt.next ?_ | refine And.intro (by omega) ?_ | ((first | refine SWp.reg ?_ | refine SWp.skip ?_ | refine SWp.exit ?_ | refine SWp.ret ?_ | refine (fun h => h : AOps _ _ _ _ → AOps _ _ _ _) ?_); simp (disch := omega) only [wP, wZ, undef, eq_self, UInt8.reduceToNat, Nat.reduceOr, Nat.reduceAnd, Nat.reduceXor, Nat.reduceDiv, if_pos, if_neg, aStore, frz, AV.flat, ↓reduceIte, ne_eq, reduceCtorEq, Int.reduceToNat, Nat.reduceEqDiff, Nat.reduceAdd, Nat.reduceSub, Nat.reduceMul, Int.reduceAdd, Int.reduceMul, Int.reduceSub, Int.reduceLT, Int.reduceLE, Int.reduceEq, Int.reduceNe, Nat.reduceLeDiff, Nat.reduceLT, Int.reduceNeg, Nat.reducePow, Nat.reduceMod, ByteArray.size]))
  refine SWp.cond rfl (fun h => ?_) (fun h => ?_)
  · simp only [decide_eq_true_eq] at h
    have hkl : k < l.length := by omega
    have hx15 : l.getD k 0 ≤ 15 := by
      have : l.getD k 0 = l[k] := by simp [List.getD, List.getElem?_eq_getElem hkl]
      rw [this]; exact h15 _ (List.getElem_mem hkl)
    have hcs : ∀ n, (l.take (k + 1)).count n = (l.take k).count n + (if n = l.getD k 0 then 1 else 0) := fun n => count_snoc hkl
    obtain ⟨x, hx⟩ : ∃ x, x = l.getD k 0 := ⟨_, rfl⟩
    rw [← hx] at hx15 hcs
    have hg := r16_get (f := fun n => (l.take k).count n) (k := x) (by omega)
    have hcl := count_take_le (l := l) (k := k) (n := x)
    have hset := r16_set (f := fun n => (l.take k).count n) (g := fun n => (l.take (k + 1)).count n) (k := x) (x := (l.take k).count x + 1) (fun i hi => by
      show (l.take (k + 1)).count i = _
      rw [hcs]
      by_cases e : i = x
      · subst e; simp
      · simp [e])
    obtain ⟨S, hS⟩ : ∃ S, S = r16 fun n => (l.take k).count n := ⟨_, rfl⟩
    have hSl : S.length = 16 := by rw [hS, length_r16]
    obtain ⟨y, hy⟩ : ∃ y, y = (l.take k).count x := ⟨_, rfl⟩
    rw [← hS] at hset hg ⊢
    simp only [← hy] at hg hset hcl
    have hsp := splice_nA (l := S) (k := x) (x := y + 1) (by omega)
    rw [hset] at hsp
    repeat (first | refine SWp.seq ?_ | refine SWp.block ?_ | refine SWp.condT rfl ?_ | refine SWp.condF rfl ?_ | refine LoopAt.next ?_ | refine And.intro (by omega) ?_ | ((first | refine SWp.reg ?_ | refine SWp.skip ?_ | refine SWp.exit ?_ | refine SWp.ret ?_ | refine (fun h => h : AOps _ _ _ _ → AOps _ _ _ _) ?_); simp (disch := omega) only [wP, wZ, undef, eq_self, UInt8.reduceToNat, Nat.reduceOr, Nat.reduceAnd, Nat.reduceXor, Nat.reduceDiv, if_pos, if_neg, aStore, frz, AV.flat, ↓reduceIte, ne_eq, reduceCtorEq, Int.reduceToNat, Nat.reduceEqDiff, Nat.reduceAdd, Nat.reduceSub, Nat.reduceMul, Int.reduceAdd, Int.reduceMul, Int.reduceSub, Int.reduceLT, Int.reduceLE, Int.reduceEq, Int.reduceNe, Nat.reduceLeDiff, Nat.reduceLT, Int.reduceNeg, Nat.reducePow, Nat.reduceMod, ByteArray.size, iR, ← hx, hg]))
    refine At.of (k + 1) (by omega) (by omega) rfl rfl (Nat.le_refl _) ?_ ?_
    · simp (disch := omega) only [wP, wZ, undef, eq_self, UInt8.reduceToNat, Nat.reduceOr, Nat.reduceAnd, Nat.reduceXor, Nat.reduceDiv, if_pos, if_neg, aStore, frz, AV.flat, ↓reduceIte, ne_eq, reduceCtorEq, Int.reduceToNat, Nat.reduceEqDiff, Nat.reduceAdd, Nat.reduceSub, Nat.reduceMul, Int.reduceAdd, Int.reduceMul, Int.reduceSub, Int.reduceLT, Int.reduceLE, Int.reduceEq, Int.reduceNe, Nat.reduceLeDiff, Nat.reduceLT, Int.reduceNeg, Nat.reducePow, Nat.reduceMod, ByteArray.size]
    · simp (disch := omega) only [wP, wZ, undef, eq_self, UInt8.reduceToNat, Nat.reduceOr, Nat.reduceAnd, Nat.reduceXor, Nat.reduceDiv, if_pos, if_neg, aStore, frz, AV.flat, ↓reduceIte, ne_eq, reduceCtorEq, Int.reduceToNat, Nat.reduceEqDiff, Nat.reduceAdd, Nat.reduceSub, Nat.reduceMul, Int.reduceAdd, Int.reduceMul, Int.reduceSub, Int.reduceLT, Int.reduceLE, Int.reduceEq, Int.reduceNe, Nat.reduceLeDiff, Nat.reduceLT, Int.reduceNeg, Nat.reducePow, Nat.reduceMod, ByteArray.size]
      exact hsp
  · simp only [decide_eq_false_iff_not] at h
    obtain rfl : k = l.length := by omega
    rw [List.take_length]
    have hset := r16_set (f := fun n => l.count n) (g := cn l) (k := 0) (x := 0) (fun i hi => rfl)
    obtain ⟨S0, hS0⟩ : ∃ S, S = r16 fun n => l.count n := ⟨_, rfl⟩
    have hS0l : S0.length = 16 := by rw [hS0, length_r16]
    rw [← hS0] at hset ⊢
    obtain ⟨S, hS⟩ : ∃ S, S = r16 (cn l) := ⟨_, rfl⟩
    have hSl : S.length = 16 := by rw [hS, length_r16]
    rw [← hS] at hset
    have hsp := splice_nA (l := S0) (k := 0) (x := 0) (by omega)
    rw [hset] at hsp
    simp only [List.take_zero, List.map_nil, List.nil_append] at hsp
    have hsp' : AV.sc (.int .i64 0) :: (S0.drop 1).map nA = S.map nA := hsp
    repeat (first | refine SWp.seq ?_ | refine SWp.block ?_ | refine SWp.condT rfl ?_ | refine SWp.condF rfl ?_ | refine LoopAt.next ?_ | refine And.intro (by omega) ?_ | ((first | refine SWp.reg ?_ | refine SWp.skip ?_ | refine SWp.exit ?_ | refine SWp.ret ?_ | refine (fun h => h : AOps _ _ _ _ → AOps _ _ _ _) ?_); simp (disch := omega) only [wP, wZ, undef, eq_self, UInt8.reduceToNat, Nat.reduceOr, Nat.reduceAnd, Nat.reduceXor, Nat.reduceDiv, if_pos, if_neg, aStore, frz, AV.flat, ↓reduceIte, ne_eq, reduceCtorEq, Int.reduceToNat, Nat.reduceEqDiff, Nat.reduceAdd, Nat.reduceSub, Nat.reduceMul, Int.reduceAdd, Int.reduceMul, Int.reduceSub, Int.reduceLT, Int.reduceLE, Int.reduceEq, Int.reduceNe, Nat.reduceLeDiff, Nat.reduceLT, Int.reduceNeg, Nat.reducePow, Nat.reduceMod, ByteArray.size, iR, hz, hsp']))
    refine SWp.loop (α := Nat) (fun k => mk 37 3 [(2, .op 2 0 0), (3, .op 3 1 0), (6, .op 6 2 0), (21, int k)] [(2, 0, .row false (Z.map nA)), (3, 1, .row false (S.map nA)), (6, 2, .row false ((r16 fun n => if n ≤ k then fr l n else 0).map nA))])
      (fun k => k ≤ 15) (fun k => 15 - k) 0 (Nat.zero_le _) (le_mk rfl ?_ ?_ ?_) ?_
    · exact Nat.le_refl _
    · simp (disch := omega) only [wP, wZ, undef, eq_self, UInt8.reduceToNat, Nat.reduceOr, Nat.reduceAnd, Nat.reduceXor, Nat.reduceDiv, if_pos, if_neg, aStore, frz, AV.flat, ↓reduceIte, ne_eq, reduceCtorEq, Int.reduceToNat, Nat.reduceEqDiff, Nat.reduceAdd, Nat.reduceSub, Nat.reduceMul, Int.reduceAdd, Int.reduceMul, Int.reduceSub, Int.reduceLT, Int.reduceLE, Int.reduceEq, Int.reduceNe, Nat.reduceLeDiff, Nat.reduceLT, Int.reduceNeg, Nat.reducePow, Nat.reduceMod, ByteArray.size]
    · simp (disch := omega) only [wP, wZ, undef, eq_self, UInt8.reduceToNat, Nat.reduceOr, Nat.reduceAnd, Nat.reduceXor, Nat.reduceDiv, if_pos, if_neg, aStore, frz, AV.flat, ↓reduceIte, ne_eq, reduceCtorEq, Int.reduceToNat, Nat.reduceEqDiff, Nat.reduceAdd, Nat.reduceSub, Nat.reduceMul, Int.reduceAdd, Int.reduceMul, Int.reduceSub, Int.reduceLT, Int.reduceLE, Int.reduceEq, Int.reduceNe, Nat.reduceLeDiff, Nat.reduceLT, Int.reduceNeg, Nat.reducePow, Nat.reduceMod, ByteArray.size]
      rw [hZ]
      exact congrArg (List.map nA) (r16_congr fun i _ => by
        by_cases e : i ≤ 0
        · obtain rfl : i = 0 := by omega
          rfl
        · rw [if_neg e])
    rintro k hk -
    repeat (first | refine SWp.seq ?_ | refine SWp.block ?_ | refine SWp.condT rfl ?_ | refine SWp.condF rfl ?_ | refine LoopAt.next ?_ | refine And.intro (by omega) ?_ | ((first | refine SWp.reg ?_ | refine SWp.skip ?_ | refine SWp.exit ?_ | refine SWp.ret ?_ | refine (fun h => h : AOps _ _ _ _ → AOps _ _ _ _) ?_); simp (disch := omega) only [wP, wZ, undef, eq_self, UInt8.reduceToNat, Nat.reduceOr, Nat.reduceAnd, Nat.reduceXor, Nat.reduceDiv, if_pos, if_neg, aStore, frz, AV.flat, ↓reduceIte, ne_eq, reduceCtorEq, Int.reduceToNat, Nat.reduceEqDiff, Nat.reduceAdd, Nat.reduceSub, Nat.reduceMul, Int.reduceAdd, Int.reduceMul, Int.reduceSub, Int.reduceLT, Int.reduceLE, Int.reduceEq, Int.reduceNe, Nat.reduceLeDiff, Nat.reduceLT, Int.reduceNeg, Nat.reducePow, Nat.reduceMod, ByteArray.size]))
    refine SWp.cond rfl (fun h => ?_) (fun h => ?_)
    · simp only [decide_eq_true_eq] at h
      have hk15 : k < 15 := by omega
      have hg := r16_get (f := fun n => if n ≤ k then fr l n else 0) (k := k) (by omega)
      rw [if_pos (Nat.le_refl _)] at hg
      have hgs : S.getD k 0 = cn l k := by rw [hS]; exact r16_get (by omega)
      have hfl := fr_lt hl (n := k) (by omega)
      have hcl := cn_le (l := l) (n := k)
      have hset := r16_set (f := fun n => if n ≤ k then fr l n else 0) (g := fun n => if n ≤ k + 1 then fr l n else 0) (k := k + 1) (x := (fr l k + cn l k) * 2) (fun i hi => by
        show (if i ≤ k + 1 then fr l i else 0) = if i = k + 1 then _ else if i ≤ k then fr l i else 0
        by_cases e : i = k + 1
        · subst e; rw [if_pos (Nat.le_refl _), if_pos rfl, fr, Nat.mul_comm]
        · rw [if_neg e]
          by_cases e2 : i ≤ k
          · rw [if_pos e2, if_pos (by omega)]
          · rw [if_neg e2, if_neg (by omega)])
      obtain ⟨G, hG⟩ : ∃ G, G = r16 fun n => if n ≤ k then fr l n else 0 := ⟨_, rfl⟩
      have hGl : G.length = 16 := by rw [hG, length_r16]
      obtain ⟨x, hx⟩ : ∃ x, x = fr l k := ⟨_, rfl⟩
      obtain ⟨y, hy⟩ : ∃ y, y = cn l k := ⟨_, rfl⟩
      rw [← hx] at hg hfl hset
      rw [← hy] at hgs hcl hset
      rw [← hG] at hset hg ⊢
      have hsp := splice_nA (l := G) (k := k + 1) (x := (x + y) * 2) (by omega)
      rw [hset] at hsp
      repeat (first | refine SWp.seq ?_ | refine SWp.block ?_ | refine SWp.condT rfl ?_ | refine SWp.condF rfl ?_ | refine LoopAt.next ?_ | refine And.intro (by omega) ?_ | ((first | refine SWp.reg ?_ | refine SWp.skip ?_ | refine SWp.exit ?_ | refine SWp.ret ?_ | refine (fun h => h : AOps _ _ _ _ → AOps _ _ _ _) ?_); simp (disch := omega) only [wP, wZ, undef, eq_self, UInt8.reduceToNat, Nat.reduceOr, Nat.reduceAnd, Nat.reduceXor, Nat.reduceDiv, if_pos, if_neg, aStore, frz, AV.flat, ↓reduceIte, ne_eq, reduceCtorEq, Int.reduceToNat, Nat.reduceEqDiff, Nat.reduceAdd, Nat.reduceSub, Nat.reduceMul, Int.reduceAdd, Int.reduceMul, Int.reduceSub, Int.reduceLT, Int.reduceLE, Int.reduceEq, Int.reduceNe, Nat.reduceLeDiff, Nat.reduceLT, Int.reduceNeg, Nat.reducePow, Nat.reduceMod, ByteArray.size, iR, hg, hgs]))
      refine At.of (k + 1) (by omega) (by omega) rfl rfl (Nat.le_refl _) ?_ ?_
      · simp (disch := omega) only [wP, wZ, undef, eq_self, UInt8.reduceToNat, Nat.reduceOr, Nat.reduceAnd, Nat.reduceXor, Nat.reduceDiv, if_pos, if_neg, aStore, frz, AV.flat, ↓reduceIte, ne_eq, reduceCtorEq, Int.reduceToNat, Nat.reduceEqDiff, Nat.reduceAdd, Nat.reduceSub, Nat.reduceMul, Int.reduceAdd, Int.reduceMul, Int.reduceSub, Int.reduceLT, Int.reduceLE, Int.reduceEq, Int.reduceNe, Nat.reduceLeDiff, Nat.reduceLT, Int.reduceNeg, Nat.reducePow, Nat.reduceMod, ByteArray.size]
      · simp (disch := omega) only [wP, wZ, undef, eq_self, UInt8.reduceToNat, Nat.reduceOr, Nat.reduceAnd, Nat.reduceXor, Nat.reduceDiv, if_pos, if_neg, aStore, frz, AV.flat, ↓reduceIte, ne_eq, reduceCtorEq, Int.reduceToNat, Nat.reduceEqDiff, Nat.reduceAdd, Nat.reduceSub, Nat.reduceMul, Int.reduceAdd, Int.reduceMul, Int.reduceSub, Int.reduceLT, Int.reduceLE, Int.reduceEq, Int.reduceNe, Nat.reduceLeDiff, Nat.reduceLT, Int.reduceNeg, Nat.reducePow, Nat.reduceMod, ByteArray.size]
        exact hsp
    · simp only [decide_eq_false_iff_not] at h
      obtain rfl : k = 15 := by omega
      have hr : (r16 fun n => if n ≤ 15 then fr l n else 0) = r16 (fr l) := r16_congr fun i hi => if_pos (by omega)
      rw [hr]
      obtain ⟨F, hF⟩ : ∃ F, F = r16 (fr l) := ⟨_, rfl⟩
      have hFl : F.length = 16 := by rw [hF, length_r16]
      rw [← hF]
      repeat (first | refine SWp.seq ?_ | refine SWp.block ?_ | refine SWp.condT rfl ?_ | refine SWp.condF rfl ?_ | refine LoopAt.next ?_ | refine And.intro (by omega) ?_ | ((first | refine SWp.reg ?_ | refine SWp.skip ?_ | refine SWp.exit ?_ | refine SWp.ret ?_ | refine (fun h => h : AOps _ _ _ _ → AOps _ _ _ _) ?_); simp (disch := omega) only [wP, wZ, undef, eq_self, UInt8.reduceToNat, Nat.reduceOr, Nat.reduceAnd, Nat.reduceXor, Nat.reduceDiv, if_pos, if_neg, aStore, frz, AV.flat, ↓reduceIte, ne_eq, reduceCtorEq, Int.reduceToNat, Nat.reduceEqDiff, Nat.reduceAdd, Nat.reduceSub, Nat.reduceMul, Int.reduceAdd, Int.reduceMul, Int.reduceSub, Int.reduceLT, Int.reduceLE, Int.reduceEq, Int.reduceNe, Nat.reduceLeDiff, Nat.reduceLT, Int.reduceNeg, Nat.reducePow, Nat.reduceMod, ByteArray.size, iR, hFl, hZd]))

/-- A symbol's row. -/
def codeOf (l : List Nat) (i : Nat) : Nat := if l.getD i 0 = 0 then 0 else fr l (l.getD i 0) + (l.take i).count (l.getD i 0)
def codesL (l : List Nat) : List Nat := (List.range l.length).map (codeOf l)
theorem length_codesL {l : List Nat} : (codesL l).length = l.length := by simp [codesL]
theorem zerosN {n : Nat} : (List.replicate n [AV.sc (.int .i64 0)]).flatten = (List.replicate n 0).map nA := by
  induction n with
  | zero => rfl
  | succ n ih => simp only [List.replicate_succ, List.flatten_cons, ih, List.map_cons]; rfl
/-- The rows of the first k symbols. -/
def codesK (l : List Nat) (k : Nat) : List Nat := (List.range l.length).map fun i => if i < k then codeOf l i else 0
theorem length_codesK {l : List Nat} {k : Nat} : (codesK l k).length = l.length := by simp [codesK]
theorem codesK_zero {l : List Nat} : codesK l 0 = List.replicate l.length 0 := by
  apply List.ext_getElem?
  intro i
  by_cases h : i < l.length
  · simp [codesK, h]
  · rw [List.getElem?_eq_none (by rw [length_codesK]; omega), List.getElem?_eq_none (by simp; omega)]
theorem codesK_all {l : List Nat} : codesK l l.length = codesL l := List.map_congr_left fun i hi => by rw [if_pos (List.mem_range.1 hi)]
theorem codesK_set {l : List Nat} {k : Nat} (h : k < l.length) : (codesK l k).set k (codeOf l k) = codesK l (k + 1) := by
  apply List.ext_getElem?
  intro i
  rw [List.getElem?_set, length_codesK]
  by_cases hi : i < l.length
  · have h1 : (codesK l k)[i]? = some (if i < k then codeOf l i else 0) := by simp [codesK, hi]
    have h2 : (codesK l (k + 1))[i]? = some (if i < k + 1 then codeOf l i else 0) := by simp [codesK, hi]
    rw [h1, h2]
    by_cases e : k = i
    · subst e; simp [h]
    · rw [if_neg e]
      by_cases e2 : i < k
      · rw [if_pos e2, if_pos (by omega)]
      · rw [if_neg e2, if_neg (by omega)]
  · have h1 : (codesK l k)[i]? = none := List.getElem?_eq_none (by rw [length_codesK]; omega)
    have h2 : (codesK l (k + 1))[i]? = none := List.getElem?_eq_none (by rw [length_codesK]; omega)
    rw [h1, h2, if_neg (by omega)]
theorem codesK_same {l : List Nat} {k : Nat} (h : k < l.length) (h0 : l.getD k 0 = 0) : codesK l (k + 1) = codesK l k := by
  refine List.map_congr_left fun i hi => ?_
  by_cases e : i = k
  · subst e; rw [if_pos (by omega), if_neg (by omega), codeOf, if_pos h0]
  · by_cases e2 : i < k
    · rw [if_pos e2, if_pos (by omega)]
    · rw [if_neg e2, if_neg (by omega)]
/-- The next rows by length, behind k symbols. -/
def nxK (l : List Nat) (k : Nat) (n : Nat) : Nat := if n = 0 then 0 else fr l n + (l.take k).count n

/-- The reference's rows on their way: all of shorter lengths, and of length n those of the first k symbols. -/
def st (l : List Nat) (n k : Nat) : List Nat := (List.range l.length).map fun i => if l.getD i 0 < n ∨ (l.getD i 0 = n ∧ i < k) then codeOf l i else l.getD i 0
theorem length_st {l : List Nat} {n k : Nat} : (st l n k).length = l.length := by simp [st]
theorem st_zero {l : List Nat} : st l 0 0 = l := by
  apply List.ext_getElem?
  intro i
  by_cases h : i < l.length
  · simp [st, h, List.getD]
  · rw [List.getElem?_eq_none (by rw [length_st]; omega), List.getElem?_eq_none (by omega)]
theorem st_next {l : List Nat} {n : Nat} : st l n l.length = st l (n + 1) 0 := by
  refine List.map_congr_left fun i hi => ?_
  have := List.mem_range.1 hi
  by_cases e : l.getD i 0 < n ∨ (l.getD i 0 = n ∧ i < l.length)
  · rw [if_pos e, if_pos (by omega)]
  · rw [if_neg e, if_neg (by omega)]
theorem st_all {l : List Nat} (h15 : ∀ x ∈ l, x ≤ 15) : st l 16 0 = codesL l := by
  refine List.map_congr_left fun i hi => ?_
  have hi := List.mem_range.1 hi
  have : l.getD i 0 = l[i] := by simp [List.getD, List.getElem?_eq_getElem hi]
  have := h15 _ (List.getElem_mem hi)
  rw [if_pos (by omega)]
theorem st_same {l : List Nat} {n k : Nat} (h : l.getD k 0 ≠ n) : st l n (k + 1) = st l n k := by
  refine List.map_congr_left fun i hi => ?_
  by_cases e : i = k
  · subst e
    by_cases e2 : l.getD i 0 < n
    · rw [if_pos (by omega), if_pos (by omega)]
    · rw [if_neg (by omega), if_neg (by omega)]
  · by_cases e2 : l.getD i 0 < n ∨ (l.getD i 0 = n ∧ i < k)
    · rw [if_pos (by omega), if_pos e2]
    · rw [if_neg (by omega), if_neg e2]
theorem st_set {l : List Nat} {n k : Nat} (hk : k < l.length) (h : l.getD k 0 = n) : (st l n k).set k (codeOf l k) = st l n (k + 1) := by
  apply List.ext_getElem?
  intro i
  rw [List.getElem?_set, length_st]
  by_cases hi : i < l.length
  · have h1 : (st l n k)[i]? = some (if l.getD i 0 < n ∨ (l.getD i 0 = n ∧ i < k) then codeOf l i else l.getD i 0) := by simp [st, hi]
    have h2 : (st l n (k + 1))[i]? = some (if l.getD i 0 < n ∨ (l.getD i 0 = n ∧ i < k + 1) then codeOf l i else l.getD i 0) := by simp [st, hi]
    rw [h1, h2]
    by_cases e : k = i
    · subst e; rw [if_pos rfl, if_pos hk, if_pos (by omega)]
    · rw [if_neg e]
      by_cases e2 : l.getD i 0 < n ∨ (l.getD i 0 = n ∧ i < k)
      · rw [if_pos e2, if_pos (by omega)]
      · rw [if_neg e2, if_neg (by omega)]
  · have h1 : (st l n k)[i]? = none := List.getElem?_eq_none (by rw [length_st]; omega)
    have h2 : (st l n (k + 1))[i]? = none := List.getElem?_eq_none (by rw [length_st]; omega)
    rw [h1, h2, if_neg (by omega)]

theorem ref_Codes_no [Tabs Tryd.prog] (nl : Bool) (l : List Int) (hl : l.length ≤ 1000) (hc : chk l ≠ 0) : Con Tryd.prog n_drayageref03_Codes [.sl nl none (l.map int)] (.tup [.sc (.slice none 0 0), int (chk l : Nat)]) := by
  refine Con.of' mix Tryd.func31 rfl Tryd.ntmps31 e_drayageref03_Codes r_drayageref03_Codes (by simp) (by simp only [AV.free, AV.free.freeL, free_zA, Bool.and_self]) rfl ?_
  unfold s_drayageref03_Codes
  have d : decide (((chk l : Nat) : Int) = 0) = false := decide_eq_false (by omega)
  repeat (first | refine SWp.seq ?_ | refine SWp.block ?_ | refine SWp.condT rfl ?_ | refine SWp.condF rfl ?_ | refine LoopAt.next ?_ | refine And.intro (by omega) ?_ | ((first | refine SWp.reg ?_ | refine SWp.skip ?_ | refine SWp.exit ?_ | refine SWp.ret ?_ | refine (fun h => h : AOps _ _ _ _ → AOps _ _ _ _) ?_); simp (disch := omega) only [wP, wZ, undef, eq_self, UInt8.reduceToNat, Nat.reduceOr, Nat.reduceAnd, Nat.reduceXor, Nat.reduceDiv, if_pos, if_neg, aStore, frz, AV.flat, ↓reduceIte, ne_eq, reduceCtorEq, Int.reduceToNat, Nat.reduceEqDiff, Nat.reduceAdd, Nat.reduceSub, Nat.reduceMul, Int.reduceAdd, Int.reduceMul, Int.reduceSub, Int.reduceLT, Int.reduceLE, Int.reduceEq, Int.reduceNe, Nat.reduceLeDiff, Nat.reduceLT, Int.reduceNeg, Nat.reducePow, Nat.reduceMod, ByteArray.size]))
  refine goC_p _ (.inl ⟨by simp only [AV.free, AV.free.freeL, free_zA, Bool.and_self], ref_Check_c nl l hl⟩) ?_
  repeat (first | refine SWp.seq ?_ | refine SWp.block ?_ | refine SWp.condT rfl ?_ | refine SWp.condF rfl ?_ | refine LoopAt.next ?_ | refine And.intro (by omega) ?_ | ((first | refine SWp.reg ?_ | refine SWp.skip ?_ | refine SWp.exit ?_ | refine SWp.ret ?_ | refine (fun h => h : AOps _ _ _ _ → AOps _ _ _ _) ?_); simp (disch := omega) only [wP, wZ, undef, eq_self, UInt8.reduceToNat, Nat.reduceOr, Nat.reduceAnd, Nat.reduceXor, Nat.reduceDiv, if_pos, if_neg, aStore, frz, AV.flat, ↓reduceIte, ne_eq, reduceCtorEq, Int.reduceToNat, Nat.reduceEqDiff, Nat.reduceAdd, Nat.reduceSub, Nat.reduceMul, Int.reduceAdd, Int.reduceMul, Int.reduceSub, Int.reduceLT, Int.reduceLE, Int.reduceEq, Int.reduceNe, Nat.reduceLeDiff, Nat.reduceLT, Int.reduceNeg, Nat.reducePow, Nat.reduceMod, ByteArray.size, d]))

set_option maxRecDepth 100000 in
theorem ref_Codes_c [Tabs Tryd.prog] (nl : Bool) (li : List Int) (hc : chk li = 0) (l : List Nat) (hli : l = li.map Int.toNat) : Con Tryd.prog n_drayageref03_Codes [.sl nl none (li.map int)] (.tup [.sl l.isEmpty none ((codesL l).map nA), int 0]) := by
  obtain ⟨hlen, ha, hK⟩ := chk_ok hc
  obtain ⟨hm, h15⟩ := okLens ha
  rw [← hli] at hm h15 hK
  have hl : l.length ≤ 320 := by rw [hli, List.length_map]; exact hlen
  have hchk := ref_Check_c nl li (by omega)
  rw [hm, hc] at hchk
  rw [hm]
  clear hm ha hc
  refine Con.of' mix Tryd.func31 rfl Tryd.ntmps31 e_drayageref03_Codes r_drayageref03_Codes (by simp) (by simp only [AV.free, AV.free.freeL, free_nA, Bool.and_self]) (by simp only [AV.free, AV.free.freeL, free_nA, int, Bool.and_self]) ?_
  unfold s_drayageref03_Codes
  have hf : AV.free.freeL [.sl nl none (l.map nA)] = true := by simp only [AV.free, AV.free.freeL, free_nA, Bool.and_self]
  obtain ⟨em, hem⟩ : ∃ em, em = l.isEmpty := ⟨_, rfl⟩
  have hem2 : (l.map nA).isEmpty = em := by rw [hem]; cases l <;> rfl
  rw [← hem]
  repeat (first | refine SWp.seq ?_ | refine SWp.block ?_ | refine SWp.condT rfl ?_ | refine SWp.condF rfl ?_ | refine LoopAt.next ?_ | refine And.intro (by omega) ?_ | ((first | refine SWp.reg ?_ | refine SWp.skip ?_ | refine SWp.exit ?_ | refine SWp.ret ?_ | refine (fun h => h : AOps _ _ _ _ → AOps _ _ _ _) ?_); simp (disch := omega) only [wP, wZ, undef, eq_self, UInt8.reduceToNat, Nat.reduceOr, Nat.reduceAnd, Nat.reduceXor, Nat.reduceDiv, if_pos, if_neg, aStore, frz, AV.flat, ↓reduceIte, ne_eq, reduceCtorEq, Int.reduceToNat, Nat.reduceEqDiff, Nat.reduceAdd, Nat.reduceSub, Nat.reduceMul, Int.reduceAdd, Int.reduceMul, Int.reduceSub, Int.reduceLT, Int.reduceLE, Int.reduceEq, Int.reduceNe, Nat.reduceLeDiff, Nat.reduceLT, Int.reduceNeg, Nat.reducePow, Nat.reduceMod, ByteArray.size]))
  refine goC_p _ (.inl ⟨hf, hchk⟩) ?_
  repeat (first | refine SWp.seq ?_ | refine SWp.block ?_ | refine SWp.condT rfl ?_ | refine SWp.condF rfl ?_ | refine LoopAt.next ?_ | refine And.intro (by omega) ?_ | ((first | refine SWp.reg ?_ | refine SWp.skip ?_ | refine SWp.exit ?_ | refine SWp.ret ?_ | refine (fun h => h : AOps _ _ _ _ → AOps _ _ _ _) ?_); simp (disch := omega) only [wP, wZ, undef, eq_self, UInt8.reduceToNat, Nat.reduceOr, Nat.reduceAnd, Nat.reduceXor, Nat.reduceDiv, if_pos, if_neg, aStore, frz, AV.flat, ↓reduceIte, ne_eq, reduceCtorEq, Int.reduceToNat, Nat.reduceEqDiff, Nat.reduceAdd, Nat.reduceSub, Nat.reduceMul, Int.reduceAdd, Int.reduceMul, Int.reduceSub, Int.reduceLT, Int.reduceLE, Int.reduceEq, Int.reduceNe, Nat.reduceLeDiff, Nat.reduceLT, Int.reduceNeg, Nat.reducePow, Nat.reduceMod, ByteArray.size, iR, hem2]))
  refine SWp.loop (α := Nat) (fun n => mk 47 1 [(0, .sl nl none (l.map nA)), (5, .own 16 0 none 0 l.length), (6, int (fr l n : Nat)), (7, int n)] [(16, 0, .row em ((st l n 0).map nA))])
    (fun n => n ≤ 16) (fun n => 16 - n) 0 (Nat.zero_le _) (le_mk rfl ?_ ?_ ?_) ?_
  · exact Nat.le_refl _
  iterate 2 (case _ => simp (disch := omega) only [wP, wZ, undef, eq_self, UInt8.reduceToNat, Nat.reduceOr, Nat.reduceAnd, Nat.reduceXor, Nat.reduceDiv, if_pos, if_neg, aStore, frz, AV.flat, ↓reduceIte, ne_eq, reduceCtorEq, Int.reduceToNat, Nat.reduceEqDiff, Nat.reduceAdd, Nat.reduceSub, Nat.reduceMul, Int.reduceAdd, Int.reduceMul, Int.reduceSub, Int.reduceLT, Int.reduceLE, Int.reduceEq, Int.reduceNe, Nat.reduceLeDiff, Nat.reduceLT, Int.reduceNeg, Nat.reducePow, Nat.reduceMod, ByteArray.size, fr, st_zero])
  rintro n hn -
  repeat (first | refine SWp.seq ?_ | refine SWp.block ?_ | refine SWp.condT rfl ?_ | refine SWp.condF rfl ?_ | refine LoopAt.next ?_ | refine And.intro (by omega) ?_ | ((first | refine SWp.reg ?_ | refine SWp.skip ?_ | refine SWp.exit ?_ | refine SWp.ret ?_ | refine (fun h => h : AOps _ _ _ _ → AOps _ _ _ _) ?_); simp (disch := omega) only [wP, wZ, undef, eq_self, UInt8.reduceToNat, Nat.reduceOr, Nat.reduceAnd, Nat.reduceXor, Nat.reduceDiv, if_pos, if_neg, aStore, frz, AV.flat, ↓reduceIte, ne_eq, reduceCtorEq, Int.reduceToNat, Nat.reduceEqDiff, Nat.reduceAdd, Nat.reduceSub, Nat.reduceMul, Int.reduceAdd, Int.reduceMul, Int.reduceSub, Int.reduceLT, Int.reduceLE, Int.reduceEq, Int.reduceNe, Nat.reduceLeDiff, Nat.reduceLT, Int.reduceNeg, Nat.reducePow, Nat.reduceMod, ByteArray.size]))
  refine SWp.cond rfl (fun h => ?_) (fun h => ?_)
  · simp only [decide_eq_true_eq] at h
    have hn15 : n ≤ 15 := by omega
    have hfl := fr_lt hl (n := n) hn15
    repeat (first | refine SWp.seq ?_ | refine SWp.block ?_ | refine SWp.condT rfl ?_ | refine SWp.condF rfl ?_ | refine LoopAt.next ?_ | refine And.intro (by omega) ?_ | ((first | refine SWp.reg ?_ | refine SWp.skip ?_ | refine SWp.exit ?_ | refine SWp.ret ?_ | refine (fun h => h : AOps _ _ _ _ → AOps _ _ _ _) ?_); simp (disch := omega) only [wP, wZ, undef, eq_self, UInt8.reduceToNat, Nat.reduceOr, Nat.reduceAnd, Nat.reduceXor, Nat.reduceDiv, if_pos, if_neg, aStore, frz, AV.flat, ↓reduceIte, ne_eq, reduceCtorEq, Int.reduceToNat, Nat.reduceEqDiff, Nat.reduceAdd, Nat.reduceSub, Nat.reduceMul, Int.reduceAdd, Int.reduceMul, Int.reduceSub, Int.reduceLT, Int.reduceLE, Int.reduceEq, Int.reduceNe, Nat.reduceLeDiff, Nat.reduceLT, Int.reduceNeg, Nat.reducePow, Nat.reduceMod, ByteArray.size]))
    refine SWp.loop (α := Nat) (fun k => mk 47 1 [(0, .sl nl none (l.map nA)), (5, .own 16 0 none 0 l.length), (6, int (nxK l k n : Nat)), (7, int n), (8, int k)] [(16, 0, .row em ((st l n k).map nA))])
      (fun k => k ≤ l.length) (fun k => l.length - k) 0 (Nat.zero_le _) (le_mk rfl ?_ ?_ ?_) ?_
    · exact Nat.le_refl _
    · simp (disch := omega) only [wP, wZ, undef, eq_self, UInt8.reduceToNat, Nat.reduceOr, Nat.reduceAnd, Nat.reduceXor, Nat.reduceDiv, if_pos, if_neg, aStore, frz, AV.flat, ↓reduceIte, ne_eq, reduceCtorEq, Int.reduceToNat, Nat.reduceEqDiff, Nat.reduceAdd, Nat.reduceSub, Nat.reduceMul, Int.reduceAdd, Int.reduceMul, Int.reduceSub, Int.reduceLT, Int.reduceLE, Int.reduceEq, Int.reduceNe, Nat.reduceLeDiff, Nat.reduceLT, Int.reduceNeg, Nat.reducePow, Nat.reduceMod, ByteArray.size]
      have : nxK l 0 n = fr l n := by
        unfold nxK
        by_cases e : n = 0
        · subst e; rfl
        · rw [if_neg e]; simp
      rw [this]
    · simp (disch := omega) only [wP, wZ, undef, eq_self, UInt8.reduceToNat, Nat.reduceOr, Nat.reduceAnd, Nat.reduceXor, Nat.reduceDiv, if_pos, if_neg, aStore, frz, AV.flat, ↓reduceIte, ne_eq, reduceCtorEq, Int.reduceToNat, Nat.reduceEqDiff, Nat.reduceAdd, Nat.reduceSub, Nat.reduceMul, Int.reduceAdd, Int.reduceMul, Int.reduceSub, Int.reduceLT, Int.reduceLE, Int.reduceEq, Int.reduceNe, Nat.reduceLeDiff, Nat.reduceLT, Int.reduceNeg, Nat.reducePow, Nat.reduceMod, ByteArray.size]
    rintro k hk -
    have hcl := count_take_le (l := l) (k := k) (n := n)
    have hyl : nxK l k n ≤ 20971840 := by
      unfold nxK
      split
      · omega
      · omega
    repeat (first | refine SWp.seq ?_ | refine SWp.block ?_ | refine SWp.condT rfl ?_ | refine SWp.condF rfl ?_ | refine LoopAt.next ?_ | refine And.intro (by omega) ?_ | ((first | refine SWp.reg ?_ | refine SWp.skip ?_ | refine SWp.exit ?_ | refine SWp.ret ?_ | refine (fun h => h : AOps _ _ _ _ → AOps _ _ _ _) ?_); simp (disch := omega) only [wP, wZ, undef, eq_self, UInt8.reduceToNat, Nat.reduceOr, Nat.reduceAnd, Nat.reduceXor, Nat.reduceDiv, if_pos, if_neg, aStore, frz, AV.flat, ↓reduceIte, ne_eq, reduceCtorEq, Int.reduceToNat, Nat.reduceEqDiff, Nat.reduceAdd, Nat.reduceSub, Nat.reduceMul, Int.reduceAdd, Int.reduceMul, Int.reduceSub, Int.reduceLT, Int.reduceLE, Int.reduceEq, Int.reduceNe, Nat.reduceLeDiff, Nat.reduceLT, Int.reduceNeg, Nat.reducePow, Nat.reduceMod, ByteArray.size]))
    refine SWp.cond rfl (fun h => ?_) (fun h => ?_)
    · simp only [decide_eq_true_eq] at h
      have hkl : k < l.length := by omega
      have hcs := count_snoc (n := n) hkl
      have hsm := st_same (l := l) (n := n) (k := k)
      have hst := st_set (n := n) hkl
      have hcd : l.getD k 0 = n → codeOf l k = nxK l k n := fun h => by unfold codeOf nxK; rw [h]
      obtain ⟨x, hx⟩ : ∃ x, x = l.getD k 0 := ⟨_, rfl⟩
      rw [← hx] at hcs hsm hst hcd
      obtain ⟨C, hC⟩ : ∃ C, C = st l n k := ⟨_, rfl⟩
      have hCl : C.length = l.length := by rw [hC, length_st]
      rw [← hC] at hst hsm ⊢
      by_cases c0 : x = n
      · have d0 : decide ((x : Int) = (n : Int)) = true := decide_eq_true (by omega)
        have hst := hst c0
        rw [hcd c0] at hst
        by_cases cn : n = 0
        · have dn : decide ((0 : Int) < (n : Int)) = false := decide_eq_false (by omega)
          have hy0 : nxK l k n = 0 := by unfold nxK; rw [if_pos cn]
          have hy1 : nxK l (k + 1) n = 0 := by unfold nxK; rw [if_pos cn]
          rw [hy0] at hst ⊢
          have hsp := splice_nA (l := C) (k := k) (x := 0) (by omega)
          rw [hst] at hsp
          have hCl2 : (st l n (k + 1)).length = l.length := length_st
          have hss : (st l n (k + 1)).set k 0 = st l n (k + 1) := by rw [← hst, List.set_set]
          have hsp2 := splice_nA (l := st l n (k + 1)) (k := k) (x := 0) (by omega)
          rw [hss] at hsp2
          have hsp' : (C.take k).map nA ++ AV.sc (.int .i64 0) :: (C.drop (k + 1)).map nA = (st l n (k + 1)).map nA := hsp
          repeat (first | refine SWp.seq ?_ | refine SWp.block ?_ | refine SWp.condT rfl ?_ | refine SWp.condF rfl ?_ | refine LoopAt.next ?_ | refine And.intro (by omega) ?_ | ((first | refine SWp.reg ?_ | refine SWp.skip ?_ | refine SWp.exit ?_ | refine SWp.ret ?_ | refine (fun h => h : AOps _ _ _ _ → AOps _ _ _ _) ?_); simp (disch := omega) only [wP, wZ, undef, eq_self, UInt8.reduceToNat, Nat.reduceOr, Nat.reduceAnd, Nat.reduceXor, Nat.reduceDiv, if_pos, if_neg, aStore, frz, AV.flat, ↓reduceIte, ne_eq, reduceCtorEq, Int.reduceToNat, Nat.reduceEqDiff, Nat.reduceAdd, Nat.reduceSub, Nat.reduceMul, Int.reduceAdd, Int.reduceMul, Int.reduceSub, Int.reduceLT, Int.reduceLE, Int.reduceEq, Int.reduceNe, Nat.reduceLeDiff, Nat.reduceLT, Int.reduceNeg, Nat.reducePow, Nat.reduceMod, ByteArray.size, iR, ← hx, d0, dn, hsp']))
          refine At.of (k + 1) (by omega) (by omega) rfl rfl (Nat.le_refl _) ?_ ?_
          · simp (disch := omega) only [wP, wZ, undef, eq_self, UInt8.reduceToNat, Nat.reduceOr, Nat.reduceAnd, Nat.reduceXor, Nat.reduceDiv, if_pos, if_neg, aStore, frz, AV.flat, ↓reduceIte, ne_eq, reduceCtorEq, Int.reduceToNat, Nat.reduceEqDiff, Nat.reduceAdd, Nat.reduceSub, Nat.reduceMul, Int.reduceAdd, Int.reduceMul, Int.reduceSub, Int.reduceLT, Int.reduceLE, Int.reduceEq, Int.reduceNe, Nat.reduceLeDiff, Nat.reduceLT, Int.reduceNeg, Nat.reducePow, Nat.reduceMod, ByteArray.size, hy1]
          · simp (disch := omega) only [wP, wZ, undef, eq_self, UInt8.reduceToNat, Nat.reduceOr, Nat.reduceAnd, Nat.reduceXor, Nat.reduceDiv, if_pos, if_neg, aStore, frz, AV.flat, ↓reduceIte, ne_eq, reduceCtorEq, Int.reduceToNat, Nat.reduceEqDiff, Nat.reduceAdd, Nat.reduceSub, Nat.reduceMul, Int.reduceAdd, Int.reduceMul, Int.reduceSub, Int.reduceLT, Int.reduceLE, Int.reduceEq, Int.reduceNe, Nat.reduceLeDiff, Nat.reduceLT, Int.reduceNeg, Nat.reducePow, Nat.reduceMod, ByteArray.size]
            exact hsp2
        · have dn : decide ((0 : Int) < (n : Int)) = true := decide_eq_true (by omega)
          have hy1 : nxK l (k + 1) n = nxK l k n + 1 := by unfold nxK; rw [if_neg cn, if_neg cn, hcs, if_pos c0.symm]; omega
          obtain ⟨y, hy⟩ : ∃ y, y = nxK l k n := ⟨_, rfl⟩
          rw [← hy] at hst hyl hy1 ⊢
          have hsp := splice_nA (l := C) (k := k) (x := y) (by omega)
          rw [hst] at hsp
          repeat (first | refine SWp.seq ?_ | refine SWp.block ?_ | refine SWp.condT rfl ?_ | refine SWp.condF rfl ?_ | refine LoopAt.next ?_ | refine And.intro (by omega) ?_ | ((first | refine SWp.reg ?_ | refine SWp.skip ?_ | refine SWp.exit ?_ | refine SWp.ret ?_ | refine (fun h => h : AOps _ _ _ _ → AOps _ _ _ _) ?_); simp (disch := omega) only [wP, wZ, undef, eq_self, UInt8.reduceToNat, Nat.reduceOr, Nat.reduceAnd, Nat.reduceXor, Nat.reduceDiv, if_pos, if_neg, aStore, frz, AV.flat, ↓reduceIte, ne_eq, reduceCtorEq, Int.reduceToNat, Nat.reduceEqDiff, Nat.reduceAdd, Nat.reduceSub, Nat.reduceMul, Int.reduceAdd, Int.reduceMul, Int.reduceSub, Int.reduceLT, Int.reduceLE, Int.reduceEq, Int.reduceNe, Nat.reduceLeDiff, Nat.reduceLT, Int.reduceNeg, Nat.reducePow, Nat.reduceMod, ByteArray.size, iR, ← hx, d0, dn]))
          refine At.of (k + 1) (by omega) (by omega) rfl rfl (Nat.le_refl _) ?_ ?_
          · simp (disch := omega) only [wP, wZ, undef, eq_self, UInt8.reduceToNat, Nat.reduceOr, Nat.reduceAnd, Nat.reduceXor, Nat.reduceDiv, if_pos, if_neg, aStore, frz, AV.flat, ↓reduceIte, ne_eq, reduceCtorEq, Int.reduceToNat, Nat.reduceEqDiff, Nat.reduceAdd, Nat.reduceSub, Nat.reduceMul, Int.reduceAdd, Int.reduceMul, Int.reduceSub, Int.reduceLT, Int.reduceLE, Int.reduceEq, Int.reduceNe, Nat.reduceLeDiff, Nat.reduceLT, Int.reduceNeg, Nat.reducePow, Nat.reduceMod, ByteArray.size, hy1]
          · simp (disch := omega) only [wP, wZ, undef, eq_self, UInt8.reduceToNat, Nat.reduceOr, Nat.reduceAnd, Nat.reduceXor, Nat.reduceDiv, if_pos, if_neg, aStore, frz, AV.flat, ↓reduceIte, ne_eq, reduceCtorEq, Int.reduceToNat, Nat.reduceEqDiff, Nat.reduceAdd, Nat.reduceSub, Nat.reduceMul, Int.reduceAdd, Int.reduceMul, Int.reduceSub, Int.reduceLT, Int.reduceLE, Int.reduceEq, Int.reduceNe, Nat.reduceLeDiff, Nat.reduceLT, Int.reduceNeg, Nat.reducePow, Nat.reduceMod, ByteArray.size]
            exact hsp
      · have d0 : decide ((x : Int) = (n : Int)) = false := decide_eq_false (by omega)
        have hsm := hsm c0
        have hy1 : nxK l (k + 1) n = nxK l k n := by
          unfold nxK
          split
          · rfl
          · rw [hcs, if_neg (fun h => c0 h.symm)]; rfl
        repeat (first | refine SWp.seq ?_ | refine SWp.block ?_ | refine SWp.condT rfl ?_ | refine SWp.condF rfl ?_ | refine LoopAt.next ?_ | refine And.intro (by omega) ?_ | ((first | refine SWp.reg ?_ | refine SWp.skip ?_ | refine SWp.exit ?_ | refine SWp.ret ?_ | refine (fun h => h : AOps _ _ _ _ → AOps _ _ _ _) ?_); simp (disch := omega) only [wP, wZ, undef, eq_self, UInt8.reduceToNat, Nat.reduceOr, Nat.reduceAnd, Nat.reduceXor, Nat.reduceDiv, if_pos, if_neg, aStore, frz, AV.flat, ↓reduceIte, ne_eq, reduceCtorEq, Int.reduceToNat, Nat.reduceEqDiff, Nat.reduceAdd, Nat.reduceSub, Nat.reduceMul, Int.reduceAdd, Int.reduceMul, Int.reduceSub, Int.reduceLT, Int.reduceLE, Int.reduceEq, Int.reduceNe, Nat.reduceLeDiff, Nat.reduceLT, Int.reduceNeg, Nat.reducePow, Nat.reduceMod, ByteArray.size, iR, ← hx, d0]))
        refine At.of (k + 1) (by omega) (by omega) rfl rfl (Nat.le_refl _) ?_ ?_
        iterate 2 (case _ => simp (disch := omega) only [wP, wZ, undef, eq_self, UInt8.reduceToNat, Nat.reduceOr, Nat.reduceAnd, Nat.reduceXor, Nat.reduceDiv, if_pos, if_neg, aStore, frz, AV.flat, ↓reduceIte, ne_eq, reduceCtorEq, Int.reduceToNat, Nat.reduceEqDiff, Nat.reduceAdd, Nat.reduceSub, Nat.reduceMul, Int.reduceAdd, Int.reduceMul, Int.reduceSub, Int.reduceLT, Int.reduceLE, Int.reduceEq, Int.reduceNe, Nat.reduceLeDiff, Nat.reduceLT, Int.reduceNeg, Nat.reducePow, Nat.reduceMod, ByteArray.size, hy1, hsm])
    · simp only [decide_eq_false_iff_not] at h
      obtain rfl : k = l.length := by omega
      have hfn : nxK l l.length n * 2 = fr l (n + 1) := by
        unfold nxK
        by_cases e : n = 0
        · subst e; rfl
        · rw [if_neg e, List.take_length, fr, cn, if_neg e, Nat.mul_comm]
      have hst := st_next (l := l) (n := n)
      rw [hst]
      obtain ⟨y, hy⟩ : ∃ y, y = nxK l l.length n := ⟨_, rfl⟩
      rw [← hy] at hfn hyl ⊢
      repeat (first | refine SWp.seq ?_ | refine SWp.block ?_ | refine SWp.condT rfl ?_ | refine SWp.condF rfl ?_ | refine LoopAt.next ?_ | refine And.intro (by omega) ?_ | ((first | refine SWp.reg ?_ | refine SWp.skip ?_ | refine SWp.exit ?_ | refine SWp.ret ?_ | refine (fun h => h : AOps _ _ _ _ → AOps _ _ _ _) ?_); simp (disch := omega) only [wP, wZ, undef, eq_self, UInt8.reduceToNat, Nat.reduceOr, Nat.reduceAnd, Nat.reduceXor, Nat.reduceDiv, if_pos, if_neg, aStore, frz, AV.flat, ↓reduceIte, ne_eq, reduceCtorEq, Int.reduceToNat, Nat.reduceEqDiff, Nat.reduceAdd, Nat.reduceSub, Nat.reduceMul, Int.reduceAdd, Int.reduceMul, Int.reduceSub, Int.reduceLT, Int.reduceLE, Int.reduceEq, Int.reduceNe, Nat.reduceLeDiff, Nat.reduceLT, Int.reduceNeg, Nat.reducePow, Nat.reduceMod, ByteArray.size]))
      refine At.of (n + 1) (by omega) (by omega) rfl rfl (Nat.le_refl _) ?_ ?_
      · simp (disch := omega) only [wP, wZ, undef, eq_self, UInt8.reduceToNat, Nat.reduceOr, Nat.reduceAnd, Nat.reduceXor, Nat.reduceDiv, if_pos, if_neg, aStore, frz, AV.flat, ↓reduceIte, ne_eq, reduceCtorEq, Int.reduceToNat, Nat.reduceEqDiff, Nat.reduceAdd, Nat.reduceSub, Nat.reduceMul, Int.reduceAdd, Int.reduceMul, Int.reduceSub, Int.reduceLT, Int.reduceLE, Int.reduceEq, Int.reduceNe, Nat.reduceLeDiff, Nat.reduceLT, Int.reduceNeg, Nat.reducePow, Nat.reduceMod, ByteArray.size, ← hfn]
        omega
      · simp (disch := omega) only [wP, wZ, undef, eq_self, UInt8.reduceToNat, Nat.reduceOr, Nat.reduceAnd, Nat.reduceXor, Nat.reduceDiv, if_pos, if_neg, aStore, frz, AV.flat, ↓reduceIte, ne_eq, reduceCtorEq, Int.reduceToNat, Nat.reduceEqDiff, Nat.reduceAdd, Nat.reduceSub, Nat.reduceMul, Int.reduceAdd, Int.reduceMul, Int.reduceSub, Int.reduceLT, Int.reduceLE, Int.reduceEq, Int.reduceNe, Nat.reduceLeDiff, Nat.reduceLT, Int.reduceNeg, Nat.reducePow, Nat.reduceMod, ByteArray.size]
  · simp only [decide_eq_false_iff_not] at h
    obtain rfl : n = 16 := by omega
    rw [st_all h15]
    have hlc := length_codesL (l := l)
    repeat (first | refine SWp.seq ?_ | refine SWp.block ?_ | refine SWp.condT rfl ?_ | refine SWp.condF rfl ?_ | refine LoopAt.next ?_ | refine And.intro (by omega) ?_ | ((first | refine SWp.reg ?_ | refine SWp.skip ?_ | refine SWp.exit ?_ | refine SWp.ret ?_ | refine (fun h => h : AOps _ _ _ _ → AOps _ _ _ _) ?_); simp (disch := omega) only [wP, wZ, undef, eq_self, UInt8.reduceToNat, Nat.reduceOr, Nat.reduceAnd, Nat.reduceXor, Nat.reduceDiv, if_pos, if_neg, aStore, frz, AV.flat, ↓reduceIte, ne_eq, reduceCtorEq, Int.reduceToNat, Nat.reduceEqDiff, Nat.reduceAdd, Nat.reduceSub, Nat.reduceMul, Int.reduceAdd, Int.reduceMul, Int.reduceSub, Int.reduceLT, Int.reduceLE, Int.reduceEq, Int.reduceNe, Nat.reduceLeDiff, Nat.reduceLT, Int.reduceNeg, Nat.reducePow, Nat.reduceMod, ByteArray.size, iR]))
end Go.Proofs.YtokdmakljdhjiaaDoor.Aw
